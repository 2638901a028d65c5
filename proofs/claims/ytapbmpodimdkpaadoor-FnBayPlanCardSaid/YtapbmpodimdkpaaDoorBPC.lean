/- Texts joined: Islands, plain facts: numbers that fall along lines until the least bus of each island is left; the answers of chapter 3; Islands, plain facts for the promises of chapter 3; Islands: the facts that the promises of chapter 3 ask for, over the answers; Plain words for buses (no program): pairs of numbers, validity, rows of pairs in memory; Sums over buses, plain facts: over the buses that a truth picks, over islands; Plain facts on chapter 5's promises; Who is alive, plain facts: the list ascends; with a line on nobody dies. -/
import Derived.Test.YtapbmpodimdkpaaDoorBPB
import Derived.Test.YtapbmpodimdkpaaDoorBCA
import Derived.Test.YtapbmpodimdkpaaDoorBPA

/- Islands, plain facts: numbers that fall along lines until the least bus of each island is left; the answers of chapter 3. -/
namespace Go.Proofs.YtapbmpodimdkpaaDoor
open Go.RowKit

/-- Numbers of the buses, as the program keeps them while they fall. -/
def NumInv (es : List E2) (nb : Nat) (zs : List Nat) : Prop := zs.length = nb ∧ ∀ b z, zs[b]? = some z → z ≤ b ∧ Conn es b z
theorem numInv_start (es : List E2) (nb : Nat) : NumInv es nb (List.range nb) := by
  refine ⟨by simp, fun b z h => ?_⟩
  have hb : b < nb := by have := (List.getElem?_eq_some_iff.1 h).1; simpa using this
  rw [List.getElem?_range hb] at h
  injection h with h; subst h
  exact ⟨Nat.le_refl _, Conn.refl _⟩
theorem set2_get {α : Type} {zs : List α} {a b c : Nat} {m z : α} (h : ((zs.set a m).set b m)[c]? = some z) : ((c = a ∨ c = b) ∧ z = m) ∨ zs[c]? = some z := by
  simp only [List.getElem?_set, List.length_set] at h
  by_cases h1 : b = c
  · rw [if_pos h1] at h
    split at h
    · injection h with h; exact .inl ⟨.inr h1.symm, h.symm⟩
    · cases h
  · rw [if_neg h1] at h
    by_cases h2 : a = c
    · rw [if_pos h2] at h
      split at h
      · injection h with h; exact .inl ⟨.inl h2.symm, h.symm⟩
      · cases h
    · rw [if_neg h2] at h; exact .inr h
/-- Both ends of a line take the lesser number. -/
theorem numInv_step {es : List E2} {nb : Nat} {zs : List Nat} {a b x y : Nat} (h : NumInv es nb zs) (he : (a, b) ∈ es) (hx : zs[a]? = some x) (hy : zs[b]? = some y) : NumInv es nb ((zs.set a (min x y)).set b (min x y)) := by
  refine ⟨by simpa using h.1, fun c z hc => ?_⟩
  obtain ⟨xa, xc⟩ := h.2 a x hx
  obtain ⟨yb, yc⟩ := h.2 b y hy
  have hab : Conn es a b := Conn.one (.inl he)
  rcases set2_get hc with ⟨hcab, rfl⟩ | hc
  · rcases Nat.le_total x y with hxy | hxy
    · rw [Nat.min_eq_left hxy]
      rcases hcab with rfl | rfl
      · exact ⟨xa, xc⟩
      · exact ⟨by omega, hab.symm.trans xc⟩
    · rw [Nat.min_eq_right hxy]
      rcases hcab with rfl | rfl
      · exact ⟨by omega, hab.trans yc⟩
      · exact ⟨yb, yc⟩
  · exact h.2 c z hc
theorem sum_set : ∀ (zs : List Nat) (a x m : Nat), zs[a]? = some x → (zs.set a m).sum + x = zs.sum + m
  | [], a, x, m, h => by simp at h
  | z :: zs, 0, x, m, h => by simp at h; subst h; simp; omega
  | z :: zs, a + 1, x, m, h => by
    have := sum_set zs a x m (by simpa using h)
    simp; omega
theorem sum_step {zs : List Nat} {a b x y : Nat} (hab : a ≠ b) (hx : zs[a]? = some x) (hy : zs[b]? = some y) (hne : x ≠ y) : ((zs.set a (min x y)).set b (min x y)).sum < zs.sum := by
  have h1 := sum_set zs a x (min x y) hx
  have h2 := sum_set (zs.set a (min x y)) b y (min x y) (by rw [List.getElem?_set_ne hab]; exact hy)
  omega
/-- Where both ends of each line have the same number, each has the least one of its island. -/
theorem numInv_end {es : List E2} {nb : Nat} {zs : List Nat} (h : NumInv es nb zs) (_hes : ∀ e ∈ es, e.1 < nb ∧ e.2 < nb) (hq : ∀ e ∈ es, zs[e.1]? = zs[e.2]?) : zs = (List.range nb).map (leastF es) := by
  apply List.ext_getElem?
  intro b
  rcases Nat.lt_or_ge b nb with hb | hb
  · rw [List.getElem?_map, List.getElem?_range hb, Option.map_some]
    obtain ⟨l1, l2, l3⟩ := leastF_spec es b
    obtain ⟨z, hz⟩ : ∃ z, zs[b]? = some z := ⟨_, List.getElem?_eq_getElem (by rw [h.1]; exact hb)⟩
    obtain ⟨z1, z2⟩ := h.2 b _ hz
    have hm : zs[leastF es b]? = some z := Conn.closed (p := fun c => zs[c]? = some z) (fun e he => by rw [hq e he]) l1 hz
    obtain ⟨m1, _⟩ := h.2 _ _ hm
    have := l3 _ z2
    rw [hz]; congr 1; omega
  · rw [List.getElem?_eq_none (by rw [h.1]; exact hb), List.getElem?_eq_none (by simpa using hb)]

/-! The answers of chapter 3 -/
def ofN (zs : List Nat) : List Int := zs.map Int.ofNat
noncomputable def islL (es : List E2) (nb : Nat) : List Nat := (List.range nb).map (leastF es)
noncomputable def islF (bs : Int) (ls : List L3) (ts : List Bool) : List Int := if stOk bs ls ts.length = true then ofN (islL (edgesOn ls ts) bs.toNat) else []
noncomputable def rchF (bs : Int) (ls : List L3) (ts : List Bool) (bus : Int) : List Int := if stOk bs ls ts.length = true ∧ inB bus 0 (bs - 1) = true then ofN (reachF (edgesOn ls ts) bs.toNat bus.toNat) else []
noncomputable def samF (bs : Int) (ls : List L3) (ts : List Bool) (a b : Int) : Bool := stOk bs ls ts.length && inB a 0 (bs - 1) && inB b 0 (bs - 1) && connB (edgesOn ls ts) a.toNat b.toNat
/-- The least buses of the islands. -/
noncomputable def heads (es : List E2) (k : Nat) : List Nat := (List.range k).filter fun b => leastF es b == b
noncomputable def iofF (bs : Int) (ls : List L3) (ts : List Bool) : List (List Int) := if stOk bs ls ts.length = true then (heads (edgesOn ls ts) bs.toNat).map fun b => ofN (reachF (edgesOn ls ts) bs.toNat b) else []
theorem ofN_len (zs : List Nat) : (ofN zs).length = zs.length := by simp [ofN]
theorem ofN_get {zs : List Nat} {k z : Nat} (h : zs[k]? = some z) : (ofN zs)[k]? = some (z : Int) := by rw [ofN, List.getElem?_map, h]; rfl
theorem islL_len (es : List E2) (nb : Nat) : (islL es nb).length = nb := by simp [islL]
theorem islL_get {es : List E2} {nb b : Nat} (h : b < nb) : (islL es nb)[b]? = some (leastF es b) := by rw [islL, List.getElem?_map, List.getElem?_range h]; rfl
theorem stOk_net {bs : Int} {ls : List L3} {m : Nat} (h : stOk bs ls m = true) : netOk bs ls = true := by
  simp only [stOk, Bool.and_eq_true] at h; exact h.1
theorem stOk_bs {bs : Int} {ls : List L3} {m : Nat} (h : stOk bs ls m = true) : 1 ≤ bs ∧ bs ≤ 8 := ⟨(netOk_len (stOk_net h)).1, (netOk_len (stOk_net h)).2.1⟩
/-- The buses among the first k that are reached. -/
noncomputable def rchTo (es : List E2) (bus k : Nat) : List Nat := (List.range k).filter (connB es bus)
theorem rchTo_yes {es : List E2} {bus k : Nat} (h : connB es bus k = true) : rchTo es bus (k + 1) = rchTo es bus k ++ [k] := by
  rw [rchTo, List.range_succ, List.filter_append, List.filter_cons, h]; rfl
theorem rchTo_no {es : List E2} {bus k : Nat} (h : connB es bus k = false) : rchTo es bus (k + 1) = rchTo es bus k := by
  rw [rchTo, List.range_succ, List.filter_append, List.filter_cons, h]; simp [rchTo]
theorem rchTo_len (es : List E2) (bus k : Nat) : (rchTo es bus k).length ≤ k := Nat.le_trans (List.length_filter_le _ _) (by simp)
theorem rchTo_all (es : List E2) (nb bus : Nat) : reachF es nb bus = rchTo es bus nb := rfl
theorem heads_yes {es : List E2} {k : Nat} (h : leastF es k = k) : heads es (k + 1) = heads es k ++ [k] := by
  rw [heads, List.range_succ, List.filter_append, List.filter_cons, if_pos (by simp [h])]; rfl
theorem heads_no {es : List E2} {k : Nat} (h : leastF es k ≠ k) : heads es (k + 1) = heads es k := by
  rw [heads, List.range_succ, List.filter_append, List.filter_cons, if_neg (by simp [h])]; simp [heads]
theorem heads_len (es : List E2) (k : Nat) : (heads es k).length ≤ k := Nat.le_trans (List.length_filter_le _ _) (by simp)
theorem leastF_lt {es : List E2} {nb b : Nat} (hb : b < nb) : leastF es b < nb := Nat.lt_of_le_of_lt (leastF_spec es b).2.1 hb
theorem rchF_len (bs : Int) (ls : List L3) (ts : List Bool) (bus : Int) : (rchF bs ls ts bus).length ≤ 8 := by
  rw [rchF]; split
  · rename_i h
    have := (stOk_bs h.1).2
    rw [ofN_len, rchTo_all]
    have := rchTo_len (edgesOn ls ts) bus.toNat bs.toNat
    omega
  · simp
theorem islF_len (bs : Int) (ls : List L3) (ts : List Bool) : (islF bs ls ts).length ≤ 8 := by
  rw [islF]; split
  · rename_i h
    have := (stOk_bs h).2
    rw [ofN_len, islL_len]; omega
  · simp
end Go.Proofs.YtapbmpodimdkpaaDoor

/- Islands, plain facts for the promises of chapter 3. -/
namespace Go.Proofs.YtapbmpodimdkpaaDoor
open Go.RowKit

/-- One line switched: the lines that are on, with it and without it. -/
theorem adj_set {ls : List L3} {ts : List Bool} {k : Nat} {l : L3} (hk : ls[k]? = some l) (hkt : k < ts.length) (x y : Nat) :
    Adj (edgesOn ls (ts.set k true)) x y ↔ Adj (edgesOn ls (ts.set k false)) x y ∨ (x = l.1.toNat ∧ y = l.2.1.toNat) ∨ (x = l.2.1.toNat ∧ y = l.1.toNat) := by
  have key : ∀ e : E2, e ∈ edgesOn ls (ts.set k true) ↔ e ∈ edgesOn ls (ts.set k false) ∨ e = (l.1.toNat, l.2.1.toNat) := by
    intro e
    rw [mem_edgesOn, mem_edgesOn]
    constructor
    · rintro ⟨j, l', h1, h2, rfl⟩
      by_cases hj : k = j
      · subst hj
        rw [hk] at h1; injection h1 with h1; subst h1
        exact .inr rfl
      · refine .inl ⟨j, l', h1, ?_, rfl⟩
        rw [List.getElem?_set_ne hj] at h2 ⊢; exact h2
    · rintro (⟨j, l', h1, h2, rfl⟩ | rfl)
      · refine ⟨j, l', h1, ?_, rfl⟩
        by_cases hj : k = j
        · subst hj
          rw [List.getElem?_set_self hkt] at h2; cases h2
        · rw [List.getElem?_set_ne hj] at h2 ⊢; exact h2
      · exact ⟨k, l, hk, List.getElem?_set_self hkt, rfl⟩
  unfold Adj
  rw [key, key]
  simp only [Prod.mk.injEq]
  constructor
  · rintro ((h | ⟨h1, h2⟩) | (h | ⟨h1, h2⟩))
    · exact .inl (.inl h)
    · exact .inr (.inl ⟨h1, h2⟩)
    · exact .inl (.inr h)
    · exact .inr (.inr ⟨h2, h1⟩)
  · rintro ((h | h) | ⟨h1, h2⟩ | ⟨h1, h2⟩)
    · exact .inl (.inl h)
    · exact .inr (.inl h)
    · exact .inl (.inr ⟨h1, h2⟩)
    · exact .inr (.inr ⟨h2, h1⟩)
theorem heads_cnt (es : List E2) (nb : Nat) : (heads es nb).length = cntF es nb := by rw [heads, cntF, List.countP_eq_length_filter]
/-- P1: a switch joins two islands or none. -/
theorem heads_switch {bs : Int} {ls : List L3} {ts : List Bool} {k : Nat} {l : L3} (hv : netOk bs ls = true) (hk : ls[k]? = some l) (hkt : k < ts.length) :
    ((heads (edgesOn ls (ts.set k false)) bs.toNat).length : Int) - ((heads (edgesOn ls (ts.set k true)) bs.toNat).length : Int) = if connB (edgesOn ls (ts.set k false)) l.1.toNat l.2.1.toNat = true then 0 else 1 := by
  have h2 := netOk_line hv hk
  simp [lineOk, inB] at h2
  obtain ⟨c1, c2⟩ := cntF_more (nb := bs.toNat) (adj_set hk hkt) (by omega) (by omega)
  rw [heads_cnt, heads_cnt]
  split
  · rename_i h; have := c1 (connB_iff.1 h); omega
  · rename_i h; have := c2 (fun e => h (connB_iff.2 e)); omega

/-- Each bus is counted at one place. -/
theorem count_each (f : Nat → Nat) (n : Nat) : ∀ m : Nat, (∀ b, b < m → f b < n) → (((List.range n).map fun h => (List.range m).countP fun b => f b == h).sum) = m
  | 0, _ => by
    have : ∀ n : Nat, ((List.range n).map fun _ => 0).sum = 0 := fun n => by
      induction n with
      | zero => rfl
      | succ n ih => rw [List.range_succ, List.map_append, List.sum_append, ih]; rfl
    simpa using this n
  | m + 1, hf => by
    have ih := count_each f n m (fun b hb => hf b (by omega))
    have hfm := hf m (by omega)
    have one : ∀ n : Nat, f m < n → ((List.range n).map fun h => if f m = h then 1 else 0).sum = 1 := by
      intro n
      induction n with
      | zero => intro h; omega
      | succ n ih =>
        intro h
        rw [List.range_succ, List.map_append, List.sum_append]
        by_cases he : f m = n
        · have : ∀ j : Nat, j ≤ n → ((List.range j).map fun h => if f m = h then 1 else 0).sum = 0 := fun j => by
            induction j with
            | zero => intro _; rfl
            | succ j ih2 =>
              intro hj
              rw [List.range_succ, List.map_append, List.sum_append, ih2 (by omega)]
              simp; omega
          have := this n (Nat.le_refl _)
          rw [this]; simp [he]
        · rw [ih (by omega)]; simp [he]
    have split : ((List.range n).map fun h => (List.range (m + 1)).countP fun b => f b == h).sum = ((List.range n).map fun h => (List.range m).countP fun b => f b == h).sum + ((List.range n).map fun h => if f m = h then 1 else 0).sum := by
      clear ih hfm one hf
      induction n with
      | zero => simp
      | succ n ih =>
        rw [List.range_succ (n := n), List.map_append, List.map_append, List.map_append, List.sum_append, List.sum_append, List.sum_append, ih, List.range_succ (n := m)]
        simp only [List.map_cons, List.map_nil, List.sum_cons, List.sum_nil, List.countP_append, List.countP_cons, List.countP_nil, Nat.zero_add, beq_iff_eq]
        omega
    rw [split, ih, one n hfm]
theorem sum_filter (f : Nat → Nat) (p : Nat → Bool) (hp : ∀ h, p h = false → f h = 0) : ∀ n : Nat, (((List.range n).filter p).map f).sum = ((List.range n).map f).sum
  | 0 => by simp
  | n + 1 => by
    rw [List.range_succ, List.filter_append, List.map_append, List.map_append, List.sum_append, List.sum_append, sum_filter f p hp n]
    congr 1
    by_cases h : p n = true
    · simp [h]
    · rw [Bool.not_eq_true] at h; simp [h, hp n h]
/-- P72: the islands have together as many buses as the network. -/
theorem heads_sum (es : List E2) (nb : Nat) : ((heads es nb).map fun h => (reachF es nb h).length).sum = nb := by
  have e1 : ∀ h ∈ heads es nb, (reachF es nb h).length = (List.range nb).countP fun b => leastF es b == h := by
    intro h hh
    rw [heads, List.mem_filter] at hh
    have hl : leastF es h = h := by simpa using hh.2
    rw [reachF, ← List.countP_eq_length_filter]
    apply List.countP_congr
    intro b _
    rw [connB_iff, beq_iff_eq]
    constructor
    · intro k; rw [← hl, leastF_eq]; exact k.symm
    · intro k; rw [← leastF_eq, hl, k]
  rw [List.map_congr_left e1, heads, sum_filter (fun h => (List.range nb).countP fun b => leastF es b == h) _ ?_ nb]
  · exact count_each (leastF es) nb nb (fun b hb => leastF_lt hb)
  · intro h hh
    rw [List.countP_eq_zero]
    intro b _ hb
    have hb' : leastF es b = h := by simpa using hb
    have := leastF_self hb'
    simp [this] at hh
theorem mem_heads {es : List E2} {nb h : Nat} : h ∈ heads es nb ↔ h < nb ∧ leastF es h = h := by
  rw [heads, List.mem_filter, List.mem_range, beq_iff_eq]
/-- The buses of an island have its head for their number. -/
theorem reach_least {es : List E2} {nb h b : Nat} (hh : leastF es h = h) (hb : b ∈ reachF es nb h) : leastF es b = h := by
  rw [← hh, leastF_eq]; exact (mem_reachF.1 hb).2.symm
theorem range_filter_ascend (p : Nat → Bool) (n : Nat) : ((List.range n).filter p).Pairwise (· < ·) := List.Pairwise.filter _ List.pairwise_lt_range
theorem reachF_ascend (es : List E2) (nb bus : Nat) : (reachF es nb bus).Pairwise (· < ·) := range_filter_ascend _ _
theorem reachF_self {es : List E2} {nb bus : Nat} (h : bus < nb) : bus ∈ reachF es nb bus := mem_reachF.2 ⟨h, Conn.refl _⟩
end Go.Proofs.YtapbmpodimdkpaaDoor

/- Islands: the facts that the promises of chapter 3 ask for, over the answers. -/
namespace Go.Proofs.YtapbmpodimdkpaaDoor
open Go.RowKit

theorem ofN_mem {zs : List Nat} {z : Int} : z ∈ ofN zs ↔ ∃ b : Nat, b ∈ zs ∧ z = (b : Int) := by
  rw [ofN, List.mem_map]
  constructor
  · rintro ⟨b, hb, rfl⟩; exact ⟨b, hb, rfl⟩
  · rintro ⟨b, hb, rfl⟩; exact ⟨b, hb, rfl⟩
theorem rchF_some {bs : Int} {ls : List L3} {ts : List Bool} {bus : Int} (h : 0 < (rchF bs ls ts bus).length) : stOk bs ls ts.length = true ∧ 0 ≤ bus ∧ bus < bs := by
  rw [rchF] at h
  by_cases hc : stOk bs ls ts.length = true ∧ inB bus 0 (bs - 1) = true
  · have h2 := hc.2
    simp only [inB, Bool.and_eq_true, decide_eq_true_eq] at h2
    exact ⟨hc.1, by omega, by omega⟩
  · rw [if_neg hc] at h; simp at h
section
variable {bs : Int} {ls : List L3} {ts : List Bool} {bus : Int}
theorem rchF_of (hs : stOk bs ls ts.length = true) (h0 : 0 ≤ bus) (h1 : bus < bs) : rchF bs ls ts bus = ofN (reachF (edgesOn ls ts) bs.toNat bus.toNat) := by
  rw [rchF, if_pos ⟨hs, by simp only [inB, Bool.and_eq_true, decide_eq_true_eq]; omega⟩]
theorem mem_rchF (hs : stOk bs ls ts.length = true) (h0 : 0 ≤ bus) (h1 : bus < bs) {z : Int} : z ∈ rchF bs ls ts bus ↔ 0 ≤ z ∧ z < bs ∧ Conn (edgesOn ls ts) bus.toNat z.toNat := by
  rw [rchF_of hs h0 h1, ofN_mem]
  constructor
  · rintro ⟨b, hb, rfl⟩
    obtain ⟨h2, h3⟩ := mem_reachF.1 hb
    exact ⟨by omega, by omega, h3⟩
  · rintro ⟨h2, h3, h4⟩
    exact ⟨z.toNat, mem_reachF.2 ⟨by omega, h4⟩, by omega⟩
theorem rchF_same (hs : stOk bs ls ts.length = true) (h0 : 0 ≤ bus) (h1 : bus < bs) {z : Int} (hz : z ∈ rchF bs ls ts bus) : rchF bs ls ts z = rchF bs ls ts bus := by
  obtain ⟨h2, h3, h4⟩ := (mem_rchF hs h0 h1).1 hz
  rw [rchF_of hs h0 h1, rchF_of hs h2 h3, reachF_congr h4]
theorem rchF_self (hs : stOk bs ls ts.length = true) (h0 : 0 ≤ bus) (h1 : bus < bs) : bus ∈ rchF bs ls ts bus :=
  (mem_rchF hs h0 h1).2 ⟨h0, h1, Conn.refl _⟩
theorem line_in {k : Nat} {l : L3} (hs : stOk bs ls ts.length = true) (hk : ls[k]? = some l) : 0 ≤ l.1 ∧ l.1 < bs ∧ 0 ≤ l.2.1 ∧ l.2.1 < bs := by
  have h2 := netOk_line (stOk_net hs) hk
  simp [lineOk, inB] at h2
  omega
theorem rchF_line (hs : stOk bs ls ts.length = true) (h0 : 0 ≤ bus) (h1 : bus < bs) {k : Nat} {l : L3} (hk : ls[k]? = some l) (ht : ts[k]? = some true) : decide (l.1 ∈ rchF bs ls ts bus) = decide (l.2.1 ∈ rchF bs ls ts bus) := by
  obtain ⟨a0, a1, b0, b1⟩ := line_in hs hk
  have hc : Conn (edgesOn ls ts) l.1.toNat l.2.1.toNat := Conn.one (.inl (mem_edgesOn.2 ⟨k, l, hk, ht, rfl⟩))
  rw [decide_eq_decide, mem_rchF hs h0 h1, mem_rchF hs h0 h1]
  exact ⟨fun h => ⟨b0, b1, h.2.2.trans hc⟩, fun h => ⟨a0, a1, h.2.2.trans hc.symm⟩⟩
end
theorem rchF_asc (bs : Int) (ls : List L3) (ts : List Bool) (bus : Int) : ∀ (k : Nat) (x y : Int), (rchF bs ls ts bus)[k]? = some x → (rchF bs ls ts bus)[k + 1]? = some y → x < y := by
  intro k x y hx hy
  rw [rchF] at hx hy
  split at hx
  · rename_i hc
    rw [if_pos hc] at hy
    simp only [ofN, List.getElem?_map, Option.map_eq_some_iff] at hx hy
    obtain ⟨a, ha, rfl⟩ := hx
    obtain ⟨b, hb, rfl⟩ := hy
    have h := List.pairwise_iff_getElem.1 (reachF_ascend (edgesOn ls ts) bs.toNat bus.toNat) k (k + 1) (List.getElem?_eq_some_iff.1 ha).1 (List.getElem?_eq_some_iff.1 hb).1 (Nat.lt_succ_self k)
    rw [(List.getElem?_eq_some_iff.1 ha).2, (List.getElem?_eq_some_iff.1 hb).2] at h
    exact Int.ofNat_lt.2 h
  · simp at hx

theorem iofF_of {bs : Int} {ls : List L3} {ts : List Bool} (hs : stOk bs ls ts.length = true) : iofF bs ls ts = (heads (edgesOn ls ts) bs.toNat).map fun b => ofN (reachF (edgesOn ls ts) bs.toNat b) := by rw [iofF, if_pos hs]
theorem iofF_some {bs : Int} {ls : List L3} {ts : List Bool} (h : 0 < (iofF bs ls ts).length) : stOk bs ls ts.length = true := by
  rw [iofF] at h
  split at h
  · assumption
  · simp at h
theorem islF_of {bs : Int} {ls : List L3} {ts : List Bool} (hs : stOk bs ls ts.length = true) : islF bs ls ts = ofN (islL (edgesOn ls ts) bs.toNat) := by rw [islF, if_pos hs]
theorem islF_some {bs : Int} {ls : List L3} {ts : List Bool} (h : 0 < (islF bs ls ts).length) : stOk bs ls ts.length = true := by
  rw [islF] at h
  split at h
  · assumption
  · simp at h
theorem islF_at {bs : Int} {ls : List L3} {ts : List Bool} (hs : stOk bs ls ts.length = true) {b : Nat} (hb : b < bs.toNat) : (islF bs ls ts)[b]? = some (leastF (edgesOn ls ts) b : Int) := by
  rw [islF_of hs]; exact ofN_get (islL_get hb)
theorem islF_length {bs : Int} {ls : List L3} {ts : List Bool} (hs : stOk bs ls ts.length = true) : (islF bs ls ts).length = bs.toNat := by rw [islF_of hs, ofN_len, islL_len]
theorem iofF_length {bs : Int} {ls : List L3} {ts : List Bool} (hs : stOk bs ls ts.length = true) : (iofF bs ls ts).length = (heads (edgesOn ls ts) bs.toNat).length := by rw [iofF_of hs, List.length_map]
theorem iofF_few (bs : Int) (ls : List L3) (ts : List Bool) : (iofF bs ls ts).length ≤ 8 := by
  by_cases hs : stOk bs ls ts.length = true
  · rw [iofF_length hs]
    have := heads_len (edgesOn ls ts) bs.toNat
    have := (stOk_bs hs).2
    omega
  · rw [iofF, if_neg hs]; simp

/-! P1 -/
theorem stOk_set {bs : Int} {ls : List L3} {ts : List Bool} (hs : stOk bs ls ts.length = true) (k : Nat) (t : Bool) : stOk bs ls (ts.set k t).length = true := by rw [List.length_set]; exact hs
theorem isl_switch {bs : Int} {ls : List L3} {ts : List Bool} {k : Nat} {l : L3} (hs : stOk bs ls ts.length = true) (hk : ls[k]? = some l) (hkt : k < ts.length) :
    ((iofF bs ls (ts.set k false)).length : Int) - ((iofF bs ls (ts.set k true)).length : Int) = if samF bs ls (ts.set k false) l.1 l.2.1 = true then 0 else 1 := by
  obtain ⟨a0, a1, b0, b1⟩ := line_in hs hk
  have hsam : samF bs ls (ts.set k false) l.1 l.2.1 = connB (edgesOn ls (ts.set k false)) l.1.toNat l.2.1.toNat := by
    have e1 : inB l.1 0 (bs - 1) = true := by simp only [inB, Bool.and_eq_true, decide_eq_true_eq]; omega
    have e2 : inB l.2.1 0 (bs - 1) = true := by simp only [inB, Bool.and_eq_true, decide_eq_true_eq]; omega
    rw [samF, stOk_set hs, e1, e2]; rfl
  rw [iofF_length (stOk_set hs k false), iofF_length (stOk_set hs k true), hsam]
  exact heads_switch (stOk_net hs) hk hkt

/-! P72 -/
def sumTo (xss : List (List Int)) (k : Nat) : Nat := ((xss.take k).map List.length).sum
theorem sumTo_succ {xss : List (List Int)} {k : Nat} {zs : List Int} (h : xss[k]? = some zs) : sumTo xss (k + 1) = sumTo xss k + zs.length := by
  rw [sumTo, sumTo, List.take_add_one, h]; simp
theorem sumTo_le (xss : List (List Int)) : ∀ k : Nat, sumTo xss k ≤ (xss.map List.length).sum := by
  induction xss with
  | nil => intro k; simp [sumTo]
  | cons a t ih =>
    intro k
    cases k with
    | zero => simp [sumTo]
    | succ k => have := ih k; simp [sumTo] at this ⊢; omega
theorem iofF_sum {bs : Int} {ls : List L3} {ts : List Bool} (hs : stOk bs ls ts.length = true) : ((iofF bs ls ts).map List.length).sum = bs.toNat := by
  rw [iofF_of hs, List.map_map]
  have h := heads_sum (edgesOn ls ts) bs.toNat
  have e : (List.length ∘ fun b => ofN (reachF (edgesOn ls ts) bs.toNat b)) = fun h => (reachF (edgesOn ls ts) bs.toNat h).length := by
    funext b; simp [ofN_len]
  rw [e]; exact h
theorem sumTo_all (xss : List (List Int)) : sumTo xss xss.length = (xss.map List.length).sum := by rw [sumTo, List.take_length]
/-- An island begins with its number, and is the number of each of its buses. -/
theorem iofF_at {bs : Int} {ls : List L3} {ts : List Bool} (hs : stOk bs ls ts.length = true) {j : Nat} {zs : List Int} (h : (iofF bs ls ts)[j]? = some zs) :
    ∃ m : Nat, zs[0]? = some (m : Int) ∧ 0 < zs.length ∧ zs.length ≤ 8 ∧ ∀ (i : Nat) (z : Int), zs[i]? = some z → ∃ b : Nat, z = (b : Int) ∧ b < bs.toNat ∧ (islF bs ls ts)[b]? = some (m : Int) := by
  rw [iofF_of hs, List.getElem?_map, Option.map_eq_some_iff] at h
  obtain ⟨m, hm, rfl⟩ := h
  obtain ⟨hm1, hm2⟩ := mem_heads.1 (List.mem_of_getElem? hm)
  have hh := reachF_head (es := edgesOn ls ts) hm1
  rw [hm2, List.head?_eq_getElem?] at hh
  refine ⟨m, ofN_get hh, by rw [ofN_len]; exact (List.getElem?_eq_some_iff.1 hh).1, ?_, fun i z hz => ?_⟩
  · rw [ofN_len, rchTo_all]
    have := rchTo_len (edgesOn ls ts) m bs.toNat
    have := (stOk_bs hs).2
    omega
  · rw [ofN, List.getElem?_map, Option.map_eq_some_iff] at hz
    obtain ⟨b, hb, rfl⟩ := hz
    have hbm := List.mem_of_getElem? hb
    have hbl := (mem_reachF.1 hbm).1
    exact ⟨b, rfl, hbl, by rw [islF_at hs hbl, reach_least hm2 hbm]⟩

/-! P73 -/
theorem samF_comm (bs : Int) (ls : List L3) (ts : List Bool) (a b : Int) : samF bs ls ts b a = samF bs ls ts a b := by
  rw [samF, samF, connB_symm]
  cases stOk bs ls ts.length <;> cases inB a 0 (bs - 1) <;> cases inB b 0 (bs - 1) <;> rfl
theorem samF_no {bs : Int} {ls : List L3} {ts : List Bool} {a b : Int} (h : stOk bs ls ts.length = false ∨ a < 0 ∨ bs ≤ a ∨ b < 0 ∨ bs ≤ b) : samF bs ls ts a b = false := by
  rw [Bool.eq_false_iff]
  intro e
  simp only [samF, inB, Bool.and_eq_true, decide_eq_true_eq] at e
  obtain ⟨⟨⟨e0, e1⟩, e2⟩, _⟩ := e
  rcases h with h | h
  · rw [h] at e0; cases e0
  · omega
theorem samF_at {bs : Int} {ls : List L3} {ts : List Bool} {a b : Nat} (hs : stOk bs ls ts.length = true) (ha : (a : Int) < bs) (hb : (b : Int) < bs) :
    ((leastF (edgesOn ls ts) a : Int) == (leastF (edgesOn ls ts) b : Int)) = samF bs ls ts a b := by
  have e1 : inB (a : Int) 0 (bs - 1) = true := by simp only [inB, Bool.and_eq_true, decide_eq_true_eq]; omega
  have e2 : inB (b : Int) 0 (bs - 1) = true := by simp only [inB, Bool.and_eq_true, decide_eq_true_eq]; omega
  rw [samF, hs, e1, e2, Bool.eq_iff_iff, beq_iff_eq]
  show _ ↔ connB (edgesOn ls ts) a b = true
  rw [connB_iff, ← leastF_eq]
  omega
theorem samF_self {bs : Int} {ls : List L3} {ts : List Bool} {a : Nat} (hs : stOk bs ls ts.length = true) (ha : (a : Int) < bs) : samF bs ls ts a a = true := by
  rw [← samF_at hs ha ha]; simp
end Go.Proofs.YtapbmpodimdkpaaDoor

/- Plain words for buses (no program): pairs of numbers, validity, rows of pairs in memory. -/
namespace Go.Proofs.YtapbmpodimdkpaaDoor
open Go.RowKit

abbrev U2 := TU
def busOk (u : U2) : Bool := inB u.1 0 999 && inB u.2 0 999
def busesOk (bs : Int) (ls : List L3) (us : List U2) : Bool := netOk bs ls && decide ((us.length : Int) = bs) && us.all busOk
/-- A network, a state and buses are valid. -/
def okU (bs : Int) (ls : List L3) (m : Nat) (us : List U2) : Bool := stOk bs ls m && busesOk bs ls us

/-- One element of a row is put. -/
theorem putAll_set {α : Type} {f : α → List Value} {m : Nat} (hm : ∀ a, (f a).length = m) {xs : List α} {k : Nat} (hk : k < xs.length) (l : α) : putAll (rowArr f xs) (k * m) (f l) = rowArr f (xs.set k l) := by
  have h := putAll_row hm (xs.take k) (xs.drop (k + 1)) xs[k] l
  have hl : (xs.take k).length = k := by rw [List.length_take]; omega
  rw [hl] at h
  have e1 : xs.take k ++ xs[k] :: xs.drop (k + 1) = xs := by rw [← List.drop_eq_getElem_cons hk, List.take_append_drop]
  have e2 : xs.take k ++ l :: xs.drop (k + 1) = xs.set k l := by rw [List.set_eq_take_append_cons_drop, if_pos hk]
  rw [e1, e2] at h
  exact h
theorem okU_st {bs : Int} {ls : List L3} {m : Nat} {us : List U2} (h : okU bs ls m us = true) : stOk bs ls m = true := by
  simp only [okU, Bool.and_eq_true] at h; exact h.1
theorem okU_bu {bs : Int} {ls : List L3} {m : Nat} {us : List U2} (h : okU bs ls m us = true) : busesOk bs ls us = true := by
  simp only [okU, Bool.and_eq_true] at h; exact h.2
theorem busesOk_len {bs : Int} {ls : List L3} {us : List U2} (h : busesOk bs ls us = true) : (us.length : Int) = bs := by
  simp only [busesOk, Bool.and_eq_true, decide_eq_true_eq] at h; exact h.1.2
theorem busesOk_net {bs : Int} {ls : List L3} {us : List U2} (h : busesOk bs ls us = true) : netOk bs ls = true := by
  simp only [busesOk, Bool.and_eq_true] at h; exact h.1.1
theorem busesOk_at {bs : Int} {ls : List L3} {us : List U2} (h : busesOk bs ls us = true) {k : Nat} {u : U2} (hk : us[k]? = some u) : 0 ≤ u.1 ∧ u.1 ≤ 999 ∧ 0 ≤ u.2 ∧ u.2 ≤ 999 := by
  simp only [busesOk, Bool.and_eq_true] at h
  have := List.all_eq_true.1 h.2 u (List.mem_of_getElem? hk)
  simp only [busOk, inB, Bool.and_eq_true, decide_eq_true_eq] at this
  omega
end Go.Proofs.YtapbmpodimdkpaaDoor

/- Sums over buses, plain facts: over the buses that a truth picks, over islands. -/
namespace Go.Proofs.YtapbmpodimdkpaaDoor
open Go.RowKit

/-- The sum of f over those of the first k that p picks. -/
def gsum (p : Nat → Bool) (f : Nat → Int) : Nat → Int
  | 0 => 0
  | k + 1 => gsum p f k + (if p k = true then f k else 0)
theorem gsum_yes {p : Nat → Bool} {f : Nat → Int} {k : Nat} (h : p k = true) : gsum p f (k + 1) = gsum p f k + f k := by rw [gsum, if_pos h]
theorem gsum_no {p : Nat → Bool} {f : Nat → Int} {k : Nat} (h : p k = false) : gsum p f (k + 1) = gsum p f k := by rw [gsum, if_neg (by rw [h]; decide)]; omega
theorem gsum_bd {p : Nat → Bool} {f : Nat → Int} {M : Int} : ∀ {k : Nat}, (∀ b, b < k → 0 ≤ f b ∧ f b ≤ M) → 0 ≤ gsum p f k ∧ gsum p f k ≤ k * M
  | 0, _ => by simp [gsum]
  | k + 1, h => by
    have ih := gsum_bd (p := p) (k := k) (fun b hb => h b (by omega))
    have hk := h k (by omega)
    have e : ((k + 1 : Nat) : Int) * M = k * M + M := by rw [Int.natCast_add, Int.add_mul]; simp
    rw [gsum, e]
    split <;> omega
theorem gsum_congr {p q : Nat → Bool} {f g : Nat → Int} : ∀ {k : Nat}, (∀ b, b < k → p b = q b ∧ f b = g b) → gsum p f k = gsum q g k
  | 0, _ => rfl
  | k + 1, h => by
    rw [gsum, gsum, gsum_congr (fun b hb => h b (by omega)), (h k (by omega)).1, (h k (by omega)).2]
theorem gsum_add (p : Nat → Bool) (f g : Nat → Int) : ∀ k : Nat, gsum p (fun b => f b + g b) k = gsum p f k + gsum p g k
  | 0 => rfl
  | k + 1 => by
    rw [gsum, gsum, gsum, gsum_add p f g k]
    split <;> omega
theorem gsum_zero (p : Nat → Bool) {f : Nat → Int} (hf : ∀ b, p b = true → f b = 0) : ∀ k : Nat, gsum p f k = 0
  | 0 => rfl
  | k + 1 => by
    rw [gsum, gsum_zero p hf k]
    split
    · rename_i h; rw [hf k h]; rfl
    · rfl
theorem gsum_le {p q : Nat → Bool} {f : Nat → Int} : ∀ {k : Nat}, (∀ b, b < k → 0 ≤ f b) → (∀ b, b < k → p b = true → q b = true) → gsum p f k ≤ gsum q f k
  | 0, _, _ => by simp [gsum]
  | k + 1, h, hq => by
    have ih := gsum_le (p := p) (q := q) (f := f) (k := k) (fun b hb => h b (by omega)) (fun b hb => hq b (by omega))
    have hk := h k (by omega)
    have hqk := hq k (by omega)
    rw [gsum, gsum]
    by_cases hp : p k = true
    · rw [if_pos hp, if_pos (hqk hp)]; omega
    · rw [if_neg hp]; split <;> omega
/-- The sum over a list that is filtered. -/
theorem filter_gsum (p : Nat → Bool) (f : Nat → Int) : ∀ k : Nat, (((List.range k).filter p).map f).sum = gsum p f k
  | 0 => rfl
  | k + 1 => by
    rw [List.range_succ, List.filter_append, List.map_append, List.sum_append, filter_gsum p f k, gsum]
    congr 1
    by_cases h : p k = true
    · simp [h]
    · rw [Bool.not_eq_true] at h; simp [h]
/-- The running sum over a list of buses. -/
def lsum (f : Nat → Int) (hs : List Nat) (k : Nat) : Int := ((hs.take k).map f).sum
theorem lsum_succ {f : Nat → Int} {hs : List Nat} {k h : Nat} (hk : hs[k]? = some h) : lsum f hs (k + 1) = lsum f hs k + f h := by
  rw [lsum, List.take_add_one, hk, List.map_append, List.sum_append]; simp [lsum]
theorem lsum_all (f : Nat → Int) (hs : List Nat) : lsum f hs hs.length = (hs.map f).sum := by rw [lsum, List.take_length]
theorem lsum_bd {f : Nat → Int} {hs : List Nat} {M : Int} (hf : ∀ h ∈ hs, 0 ≤ f h ∧ f h ≤ M) : ∀ k : Nat, k ≤ hs.length → 0 ≤ lsum f hs k ∧ lsum f hs k ≤ k * M
  | 0, _ => by simp [lsum]
  | k + 1, h => by
    have hk : hs[k]? = some (hs[k]'(by omega)) := List.getElem?_eq_getElem _
    have ih := lsum_bd hf k (by omega)
    have h1 := hf _ (List.mem_of_getElem? hk)
    have e : ((k + 1 : Nat) : Int) * M = k * M + M := by rw [Int.natCast_add, Int.add_mul]; simp
    rw [lsum_succ hk, e]
    omega

/-! Islands -/
theorem head_conn (es : List E2) (h b : Nat) : ((leastF es h == h) && connB es h b) = (h == leastF es b) := by
  rw [Bool.eq_iff_iff, Bool.and_eq_true, beq_iff_eq, beq_iff_eq, connB_iff]
  constructor
  · rintro ⟨h1, h2⟩
    exact h1.symm.trans (leastF_eq.2 h2)
  · intro e
    subst e
    exact ⟨leastF_self rfl, (leastF_spec es b).1.symm⟩
theorem gsum_one {a : Nat} {x : Int} {c : Nat → Bool} {q : Nat → Bool} (hq : ∀ h, q h = ((h == a) && c h)) : ∀ {n : Nat}, a < n → gsum q (fun _ => x) n = if c a = true then x else 0
  | 0, h => absurd h (by omega)
  | n + 1, h => by
    rw [gsum]
    by_cases hn : a = n
    · subst hn
      have h0 : gsum q (fun _ => x) a = 0 := by
        have : ∀ k : Nat, k ≤ a → gsum q (fun _ => x) k = 0 := by
          intro k
          induction k with
          | zero => intro _; rfl
          | succ k ih =>
            intro hk
            rw [gsum, ih (by omega), if_neg (by rw [hq k]; simp; omega)]; rfl
        exact this a (Nat.le_refl _)
      rw [h0, hq a]
      simp
    · have hqn : q n = false := by rw [hq n]; simp; omega
      rw [gsum_one hq (show a < n by omega), hqn]
      simp
theorem gsum_if (p c : Nat → Bool) (f : Nat → Int) : ∀ k : Nat, gsum p (fun b => if c b = true then f b else 0) k = gsum (fun b => p b && c b) f k
  | 0 => rfl
  | k + 1 => by
    rw [gsum, gsum, gsum_if p c f k]
    congr 1
    cases p k <;> cases c k <;> simp
/-- The sums of the islands that are picked are the sum over the buses whose island is picked. -/
theorem heads_gsum (es : List E2) (nb : Nat) (c : Nat → Bool) (f : Nat → Int) : ∀ m : Nat, m ≤ nb →
    ((heads es nb).map fun h => if c h = true then gsum (connB es h) f m else 0).sum = gsum (fun b => c (leastF es b)) f m
  | 0, _ => by
    rw [heads, filter_gsum]
    exact gsum_zero _ (fun b _ => by simp [gsum]) _
  | m + 1, hm => by
    have ih := heads_gsum es nb c f m (by omega)
    rw [heads, filter_gsum] at ih ⊢
    have e : gsum (fun b => leastF es b == b) (fun h => if c h = true then gsum (connB es h) f (m + 1) else 0) nb
        = gsum (fun b => leastF es b == b) (fun h => (if c h = true then gsum (connB es h) f m else 0) + (if (c h && connB es h m) = true then f m else 0)) nb := by
      refine gsum_congr fun b _ => ⟨rfl, ?_⟩
      rw [gsum]
      cases c b <;> simp
    rw [e, gsum_add, ih, gsum_if, gsum]
    congr 1
    refine gsum_one (a := leastF es m) (c := c) (fun h => ?_) (leastF_lt (by omega))
    have := head_conn es h m
    rw [← this]
    cases c h <;> cases (leastF es h == h) <;> simp
/-- All islands have together all. -/
theorem heads_all (es : List E2) (nb : Nat) (f : Nat → Int) : ((heads es nb).map fun h => gsum (connB es h) f nb).sum = gsum (fun _ => true) f nb := by
  have := heads_gsum es nb (fun _ => true) f nb (Nat.le_refl _)
  simpa using this

/-! What buses give and want -/
def fd (us : List U2) (b : Nat) : Int := (us.getD b (0, 0)).1
def ld (us : List U2) (b : Nat) : Int := (us.getD b (0, 0)).2
theorem fd_at {us : List U2} {b : Nat} {u : U2} (h : us[b]? = some u) : fd us b = u.1 := by rw [fd, List.getD_eq_getElem?_getD, h]; rfl
theorem ld_at {us : List U2} {b : Nat} {u : U2} (h : us[b]? = some u) : ld us b = u.2 := by rw [ld, List.getD_eq_getElem?_getD, h]; rfl
theorem fd_bd {bs : Int} {ls : List L3} {us : List U2} (h : busesOk bs ls us = true) (b : Nat) : 0 ≤ fd us b ∧ fd us b ≤ 999 := by
  rcases hb : us[b]? with _ | u
  · rw [fd, List.getD_eq_getElem?_getD, hb]; simp
  · rw [fd_at hb]; have := busesOk_at h hb; omega
theorem ld_bd {bs : Int} {ls : List L3} {us : List U2} (h : busesOk bs ls us = true) (b : Nat) : 0 ≤ ld us b ∧ ld us b ≤ 999 := by
  rcases hb : us[b]? with _ | u
  · rw [ld, List.getD_eq_getElem?_getD, hb]; simp
  · rw [ld_at hb]; have := busesOk_at h hb; omega
/-- The sum over the island of a bus. -/
noncomputable def isum (es : List E2) (nb : Nat) (f : Nat → Int) (b : Nat) : Int := gsum (connB es b) f nb
theorem isum_congr {es : List E2} {nb : Nat} {f : Nat → Int} {a b : Nat} (h : Conn es a b) : isum es nb f a = isum es nb f b :=
  gsum_congr fun c _ => ⟨connB_congr h c, rfl⟩
theorem isum_list (es : List E2) (nb : Nat) (f : Nat → Int) (b : Nat) : ((reachF es nb b).map f).sum = isum es nb f b := filter_gsum _ _ _
theorem isum_bd {es : List E2} {nb : Nat} {f : Nat → Int} {b : Nat} (hnb : nb ≤ 8) (hf : ∀ c, 0 ≤ f c ∧ f c ≤ 999) : 0 ≤ isum es nb f b ∧ isum es nb f b ≤ 7992 := by
  have := gsum_bd (p := connB es b) (f := f) (M := 999) (k := nb) (fun c _ => hf c)
  unfold isum; omega
/-- The answers of chapter 5. -/
noncomputable def feedF (bs : Int) (ls : List L3) (ts : List Bool) (us : List U2) (bus : Int) : Int := if okU bs ls ts.length us = true ∧ inB bus 0 (bs - 1) = true then isum (edgesOn ls ts) bs.toNat (fd us) bus.toNat else -1
noncomputable def loadF (bs : Int) (ls : List L3) (ts : List Bool) (us : List U2) (bus : Int) : Int := if okU bs ls ts.length us = true ∧ inB bus 0 (bs - 1) = true then isum (edgesOn ls ts) bs.toNat (ld us) bus.toNat else -1
/-- The buses among the first k that are alive; those whose island has enough. -/
noncomputable def aliB (es : List E2) (nb : Nat) (us : List U2) (b : Nat) : Bool := decide (0 < isum es nb (fd us) b)
noncomputable def serB (es : List E2) (nb : Nat) (us : List U2) (b : Nat) : Bool := decide (isum es nb (ld us) b ≤ isum es nb (fd us) b)
noncomputable def aliTo (es : List E2) (nb : Nat) (us : List U2) (k : Nat) : List Nat := (List.range k).filter (aliB es nb us)
noncomputable def aliF (bs : Int) (ls : List L3) (ts : List Bool) (us : List U2) : List Int := if okU bs ls ts.length us = true then ofN (aliTo (edgesOn ls ts) bs.toNat us bs.toNat) else []
noncomputable def serF (bs : Int) (ls : List L3) (ts : List Bool) (us : List U2) : Int := if okU bs ls ts.length us = true then gsum (serB (edgesOn ls ts) bs.toNat us) (ld us) bs.toNat else -1
theorem aliTo_yes {es : List E2} {nb k : Nat} {us : List U2} (h : aliB es nb us k = true) : aliTo es nb us (k + 1) = aliTo es nb us k ++ [k] := by
  rw [aliTo, List.range_succ, List.filter_append, List.filter_cons, h]; rfl
theorem aliTo_no {es : List E2} {nb k : Nat} {us : List U2} (h : aliB es nb us k = false) : aliTo es nb us (k + 1) = aliTo es nb us k := by
  rw [aliTo, List.range_succ, List.filter_append, List.filter_cons, h]; simp [aliTo]
theorem aliTo_len (es : List E2) (nb : Nat) (us : List U2) (k : Nat) : (aliTo es nb us k).length ≤ k := Nat.le_trans (List.length_filter_le _ _) (by simp)
theorem okU_bs {bs : Int} {ls : List L3} {m : Nat} {us : List U2} (h : okU bs ls m us = true) : 1 ≤ bs ∧ bs ≤ 8 := stOk_bs (okU_st h)
theorem aliF_len (bs : Int) (ls : List L3) (ts : List Bool) (us : List U2) : (aliF bs ls ts us).length ≤ 8 := by
  rw [aliF]; split
  · rename_i h
    have := (okU_bs h).2
    have := aliTo_len (edgesOn ls ts) bs.toNat us bs.toNat
    rw [ofN_len]; omega
  · simp

/-! The program's sums -/
/-- Each bus's own number so far: the sums of the first k buses stand at the least bus of each island. -/
noncomputable def sumAt (es : List E2) (us : List U2) (k h : Nat) : U2 := (gsum (fun b => leastF es b == h) (fd us) k, gsum (fun b => leastF es b == h) (ld us) k)
noncomputable def sumTo5 (es : List E2) (nb : Nat) (us : List U2) (k : Nat) : List U2 := (List.range nb).map (sumAt es us k)
theorem sumTo5_len (es : List E2) (nb : Nat) (us : List U2) (k : Nat) : (sumTo5 es nb us k).length = nb := by simp [sumTo5]
theorem sumTo5_get {es : List E2} {nb k h : Nat} {us : List U2} (hh : h < nb) : (sumTo5 es nb us k)[h]? = some (sumAt es us k h) := by rw [sumTo5, List.getElem?_map, List.getElem?_range hh]; rfl
theorem sumTo5_zero (es : List E2) (nb : Nat) (us : List U2) : sumTo5 es nb us 0 = List.replicate nb (0, 0) := by
  apply List.ext_getElem?
  intro i
  by_cases hi : i < nb
  · rw [sumTo5_get hi, List.getElem?_replicate, if_pos hi]; rfl
  · rw [List.getElem?_eq_none (by rw [sumTo5_len]; omega), List.getElem?_eq_none (by simp; omega)]
theorem sumTo5_succ {es : List E2} {nb k : Nat} {us : List U2} : sumTo5 es nb us (k + 1) = (sumTo5 es nb us k).set (leastF es k) ((sumAt es us k (leastF es k)).1 + fd us k, (sumAt es us k (leastF es k)).2 + ld us k) := by
  apply List.ext_getElem?
  intro i
  by_cases hi : i < nb
  · rw [sumTo5_get hi, List.getElem?_set]
    by_cases he : leastF es k = i
    · subst he
      rw [if_pos rfl, if_pos (by rw [sumTo5_len]; exact hi), sumAt, gsum_yes (by simp), gsum_yes (by simp)]; rfl
    · rw [if_neg he, sumTo5_get hi, sumAt, gsum_no (by simpa using he), gsum_no (by simpa using he)]; rfl
  · rw [List.getElem?_eq_none (by rw [sumTo5_len]; omega), List.getElem?_eq_none (by simp [sumTo5_len]; omega)]
/-- Then each bus takes those of its island. -/
noncomputable def sumBack (es : List E2) (nb : Nat) (us : List U2) (k : Nat) : List U2 := (List.range nb).map fun b => sumAt es us nb (if b < k then leastF es b else b)
theorem sumBack_len (es : List E2) (nb : Nat) (us : List U2) (k : Nat) : (sumBack es nb us k).length = nb := by simp [sumBack]
theorem sumBack_get {es : List E2} {nb k b : Nat} {us : List U2} (hh : b < nb) : (sumBack es nb us k)[b]? = some (sumAt es us nb (if b < k then leastF es b else b)) := by rw [sumBack, List.getElem?_map, List.getElem?_range hh]; rfl
theorem sumBack_zero (es : List E2) (nb : Nat) (us : List U2) : sumBack es nb us 0 = sumTo5 es nb us nb := by
  apply List.ext_getElem?
  intro i
  by_cases hi : i < nb
  · rw [sumBack_get hi, sumTo5_get hi]; simp
  · rw [List.getElem?_eq_none (by rw [sumBack_len]; omega), List.getElem?_eq_none (by simp [sumTo5_len]; omega)]
theorem sumBack_num {es : List E2} {nb k : Nat} {us : List U2} (hk : k < nb) : (sumBack es nb us k)[leastF es k]? = some (sumAt es us nb (leastF es k)) := by
  rw [sumBack_get (leastF_lt hk)]
  congr 2
  split
  · exact leastF_self rfl
  · rfl
theorem sumBack_succ {es : List E2} {nb k : Nat} {us : List U2} : sumBack es nb us (k + 1) = (sumBack es nb us k).set k (sumAt es us nb (leastF es k)) := by
  apply List.ext_getElem?
  intro i
  by_cases hi : i < nb
  · rw [sumBack_get hi, List.getElem?_set]
    by_cases he : k = i
    · subst he
      have hl : k < (sumBack es nb us k).length := by rw [sumBack_len]; exact hi
      rw [if_pos rfl, if_pos hl, if_pos (Nat.lt_succ_self k)]
    · rw [if_neg he, sumBack_get hi]
      congr 2
      by_cases h1 : i < k
      · rw [if_pos h1, if_pos (by omega)]
      · rw [if_neg h1, if_neg (by omega)]
  · rw [List.getElem?_eq_none (by rw [sumBack_len]; omega), List.getElem?_eq_none (by simp [sumBack_len]; omega)]
noncomputable def sumsF (es : List E2) (nb : Nat) (us : List U2) : List U2 := (List.range nb).map fun b => (isum es nb (fd us) b, isum es nb (ld us) b)
theorem sumsF_len (es : List E2) (nb : Nat) (us : List U2) : (sumsF es nb us).length = nb := by simp [sumsF]
theorem sumsF_get {es : List E2} {nb b : Nat} {us : List U2} (hh : b < nb) : (sumsF es nb us)[b]? = some (isum es nb (fd us) b, isum es nb (ld us) b) := by rw [sumsF, List.getElem?_map, List.getElem?_range hh]; rfl
theorem sumBack_all (es : List E2) (nb : Nat) (us : List U2) : sumBack es nb us nb = sumsF es nb us := by
  apply List.ext_getElem?
  intro i
  by_cases hi : i < nb
  · rw [sumBack_get hi, sumsF_get hi, if_pos hi, sumAt]
    have key : ∀ c, (leastF es c == leastF es i) = connB es i c := fun c => by
      rw [Bool.eq_iff_iff, beq_iff_eq, leastF_eq, connB_iff]; exact ⟨Conn.symm, Conn.symm⟩
    congr 2
    · exact gsum_congr fun c _ => ⟨key c, rfl⟩
    · exact gsum_congr fun c _ => ⟨key c, rfl⟩
  · rw [List.getElem?_eq_none (by rw [sumBack_len]; omega), List.getElem?_eq_none (by simp [sumsF_len]; omega)]
theorem sumAt_bd {bs : Int} {ls : List L3} {es : List E2} {us : List U2} {k h : Nat} (hb : busesOk bs ls us = true) (hk : k ≤ 8) : 0 ≤ (sumAt es us k h).1 ∧ (sumAt es us k h).1 ≤ 7992 ∧ 0 ≤ (sumAt es us k h).2 ∧ (sumAt es us k h).2 ≤ 7992 := by
  have h1 := gsum_bd (p := fun b => leastF es b == h) (f := fd us) (M := 999) (k := k) (fun c _ => fd_bd hb c)
  have h2 := gsum_bd (p := fun b => leastF es b == h) (f := ld us) (M := 999) (k := k) (fun c _ => ld_bd hb c)
  simp only [sumAt]
  omega
end Go.Proofs.YtapbmpodimdkpaaDoor

/- Plain facts on chapter 5's promises. -/
namespace Go.Proofs.YtapbmpodimdkpaaDoor
open Go.RowKit

section
variable {bs : Int} {ls : List L3} {ts : List Bool} {us : List U2} {bus : Int}
theorem feedF_ok (h : okU bs ls ts.length us = true) (h0 : 0 ≤ bus) (h1 : bus < bs) : feedF bs ls ts us bus = isum (edgesOn ls ts) bs.toNat (fd us) bus.toNat := by
  have hi : inB bus 0 (bs - 1) = true := by simp [inB]; omega
  rw [feedF, h, hi]; simp
theorem loadF_ok (h : okU bs ls ts.length us = true) (h0 : 0 ≤ bus) (h1 : bus < bs) : loadF bs ls ts us bus = isum (edgesOn ls ts) bs.toNat (ld us) bus.toNat := by
  have hi : inB bus 0 (bs - 1) = true := by simp [inB]; omega
  rw [loadF, h, hi]; simp
/-- Less than 0 is the fixed answer; else all arguments are valid. -/
theorem feedF_some : feedF bs ls ts us bus = -1 ∨ (okU bs ls ts.length us = true ∧ 0 ≤ bus ∧ bus < bs ∧ 0 ≤ feedF bs ls ts us bus) := by
  by_cases h : okU bs ls ts.length us = true ∧ inB bus 0 (bs - 1) = true
  · obtain ⟨h0, h1⟩ := h
    simp only [inB, Bool.and_eq_true, decide_eq_true_eq] at h1
    have hb := okU_bs h0
    refine .inr ⟨h0, h1.1, by omega, ?_⟩
    rw [feedF_ok h0 h1.1 (by omega)]
    exact (isum_bd (by omega) (fd_bd (okU_bu h0))).1
  · exact .inl (by rw [feedF, if_neg h])
theorem loadF_some : loadF bs ls ts us bus = -1 ∨ (okU bs ls ts.length us = true ∧ 0 ≤ bus ∧ bus < bs ∧ 0 ≤ loadF bs ls ts us bus) := by
  by_cases h : okU bs ls ts.length us = true ∧ inB bus 0 (bs - 1) = true
  · obtain ⟨h0, h1⟩ := h
    simp only [inB, Bool.and_eq_true, decide_eq_true_eq] at h1
    have hb := okU_bs h0
    refine .inr ⟨h0, h1.1, by omega, ?_⟩
    rw [loadF_ok h0 h1.1 (by omega)]
    exact (isum_bd (by omega) (ld_bd (okU_bu h0))).1
  · exact .inl (by rw [loadF, if_neg h])
theorem samF_conn {a b : Int} (h : samF bs ls ts a b = true) : Conn (edgesOn ls ts) a.toNat b.toNat := by
  simp only [samF, Bool.and_eq_true] at h
  exact connB_iff.1 h.2
theorem serF_some : serF bs ls ts us = -1 ∨ (okU bs ls ts.length us = true ∧ serF bs ls ts us = gsum (serB (edgesOn ls ts) bs.toNat us) (ld us) bs.toNat ∧ 0 ≤ serF bs ls ts us) := by
  by_cases h : okU bs ls ts.length us = true
  · have hb := okU_bs h
    have e : serF bs ls ts us = gsum (serB (edgesOn ls ts) bs.toNat us) (ld us) bs.toNat := by rw [serF, if_pos h]
    refine .inr ⟨h, e, ?_⟩
    rw [e]; exact (gsum_bd (M := 999) (fun c _ => ld_bd (okU_bu h) c)).1
  · exact .inl (by rw [serF, if_neg h])
end
/-- The islands' heads, one by one. -/
theorem iofF_head {bs : Int} {ls : List L3} {ts : List Bool} (hs : stOk bs ls ts.length = true) : (iofF bs ls ts).length = (heads (edgesOn ls ts) bs.toNat).length ∧
    ∀ (j : Nat) (zs : List Int), (iofF bs ls ts)[j]? = some zs → ∃ h : Nat, (heads (edgesOn ls ts) bs.toNat)[j]? = some h ∧ zs[0]? = some (h : Int) ∧ 0 < zs.length ∧ zs.length ≤ 8 ∧ h < bs.toNat := by
  refine ⟨iofF_length hs, fun j zs hj => ?_⟩
  have h := hj
  rw [iofF_of hs, List.getElem?_map, Option.map_eq_some_iff] at h
  obtain ⟨m, hm, rfl⟩ := h
  obtain ⟨hm1, hm2⟩ := mem_heads.1 (List.mem_of_getElem? hm)
  have hh := reachF_head (es := edgesOn ls ts) hm1
  rw [hm2, List.head?_eq_getElem?] at hh
  refine ⟨m, hm, ofN_get hh, by rw [ofN_len]; exact (List.getElem?_eq_some_iff.1 hh).1, ?_, hm1⟩
  rw [ofN_len, rchTo_all]
  have := rchTo_len (edgesOn ls ts) m bs.toNat
  have := (stOk_bs hs).2
  omega
theorem isum_heads (es : List E2) (nb : Nat) (f : Nat → Int) : lsum (isum es nb f) (heads es nb) (heads es nb).length = gsum (fun _ => true) f nb := by
  rw [lsum_all]; exact heads_all es nb f
theorem gall_bd {f : Nat → Int} {k : Nat} (hf : ∀ b, 0 ≤ f b ∧ f b ≤ 999) (hk : k ≤ 8) : 0 ≤ gsum (fun _ => true) f k ∧ gsum (fun _ => true) f k ≤ 7992 := by
  have := gsum_bd (p := fun _ => true) (f := f) (M := 999) (k := k) (fun c _ => hf c)
  omega
theorem lsum_isum_bd {es : List E2} {nb k : Nat} {f : Nat → Int} (hf : ∀ b, 0 ≤ f b ∧ f b ≤ 999) (hnb : nb ≤ 8) (hk : k ≤ (heads es nb).length) : 0 ≤ lsum (isum es nb f) (heads es nb) k ∧ lsum (isum es nb f) (heads es nb) k ≤ 63936 := by
  have h := lsum_bd (f := isum es nb f) (hs := heads es nb) (M := 7992) (fun h _ => isum_bd hnb hf) k hk
  have := heads_len es nb
  omega
/-- What the island of a head wants, if it has enough. -/
noncomputable def serH (es : List E2) (nb : Nat) (us : List U2) (h : Nat) : Int := if serB es nb us h = true then isum es nb (ld us) h else 0
theorem ser_heads (es : List E2) (nb : Nat) (us : List U2) : lsum (serH es nb us) (heads es nb) (heads es nb).length = gsum (serB es nb us) (ld us) nb := by
  rw [lsum_all]
  have h := heads_gsum es nb (serB es nb us) (ld us) nb (Nat.le_refl _)
  have e : gsum (fun b => serB es nb us (leastF es b)) (ld us) nb = gsum (serB es nb us) (ld us) nb := gsum_congr fun b _ => ⟨by
    have hc := (leastF_spec es b).1
    rw [serB, serB, isum_congr hc, isum_congr (f := fd us) hc], rfl⟩
  rw [← e, ← h]; rfl
theorem serH_yes {es : List E2} {nb : Nat} {us : List U2} {h : Nat} (k : isum es nb (ld us) h ≤ isum es nb (fd us) h) : serH es nb us h = isum es nb (ld us) h := by
  rw [serH, if_pos (by simpa [serB] using k)]
theorem serH_no {es : List E2} {nb : Nat} {us : List U2} {h : Nat} (k : ¬ isum es nb (ld us) h ≤ isum es nb (fd us) h) : serH es nb us h = 0 := by
  rw [serH, if_neg (by simpa [serB] using k)]
theorem serH_bd {es : List E2} {nb : Nat} {us : List U2} (hf : ∀ b, 0 ≤ ld us b ∧ ld us b ≤ 999) (hnb : nb ≤ 8) (h : Nat) : 0 ≤ serH es nb us h ∧ serH es nb us h ≤ 7992 := by
  have := isum_bd (es := es) (b := h) hnb hf
  unfold serH; split <;> omega
theorem lsum_serH_bd {es : List E2} {nb k : Nat} {us : List U2} (hf : ∀ b, 0 ≤ ld us b ∧ ld us b ≤ 999) (hnb : nb ≤ 8) (hk : k ≤ (heads es nb).length) : 0 ≤ lsum (serH es nb us) (heads es nb) k ∧ lsum (serH es nb us) (heads es nb) k ≤ 63936 := by
  have h := lsum_bd (f := serH es nb us) (hs := heads es nb) (M := 7992) (fun h _ => serH_bd hf hnb h) k hk
  have := heads_len es nb
  omega
end Go.Proofs.YtapbmpodimdkpaaDoor

/- Who is alive, plain facts: the list ascends; with a line on nobody dies. -/
namespace Go.Proofs.YtapbmpodimdkpaaDoor
open Go.RowKit

section
variable {bs : Int} {ls : List L3} {ts : List Bool} {us : List U2}
theorem aliF_of (h : okU bs ls ts.length us = true) : aliF bs ls ts us = ofN (aliTo (edgesOn ls ts) bs.toNat us bs.toNat) := by rw [aliF, if_pos h]
theorem aliF_asc : ∀ (k : Nat) (x y : Int), (aliF bs ls ts us)[k]? = some x → (aliF bs ls ts us)[k + 1]? = some y → x < y := by
  intro k x y hx hy
  rw [aliF] at hx hy
  split at hx
  · rename_i hc
    rw [if_pos hc] at hy
    simp only [ofN, List.getElem?_map, Option.map_eq_some_iff] at hx hy
    obtain ⟨a, ha, rfl⟩ := hx
    obtain ⟨b, hb, rfl⟩ := hy
    have h := List.pairwise_iff_getElem.1 (range_filter_ascend (aliB (edgesOn ls ts) bs.toNat us) bs.toNat) k (k + 1) (List.getElem?_eq_some_iff.1 ha).1 (List.getElem?_eq_some_iff.1 hb).1 (Nat.lt_succ_self k)
    have e1 := (List.getElem?_eq_some_iff.1 ha).2
    have e2 := (List.getElem?_eq_some_iff.1 hb).2
    have h' : a < b := by rw [← e1, ← e2]; exact h
    exact Int.ofNat_lt.2 h'
  · simp at hx
theorem mem_aliF (h : okU bs ls ts.length us = true) {z : Int} : z ∈ aliF bs ls ts us ↔ ∃ b : Nat, z = (b : Int) ∧ b < bs.toNat ∧ 0 < isum (edgesOn ls ts) bs.toNat (fd us) b := by
  rw [aliF_of h, ofN_mem]
  constructor
  · rintro ⟨b, hb, rfl⟩
    rw [aliTo, List.mem_filter, List.mem_range] at hb
    exact ⟨b, rfl, hb.1, by simpa [aliB] using hb.2⟩
  · rintro ⟨b, rfl, h1, h2⟩
    exact ⟨b, by rw [aliTo, List.mem_filter, List.mem_range]; exact ⟨h1, by simpa [aliB] using h2⟩, rfl⟩
/-- P3: with a line on, all buses are alive that are with it off. -/
theorem aliF_sub {k : Nat} {l : L3} (h : okU bs ls ts.length us = true) (hk : ls[k]? = some l) (hkt : k < ts.length) : ∀ z ∈ aliF bs ls (ts.set k false) us, z ∈ aliF bs ls (ts.set k true) us := by
  intro z hz
  have h0 : okU bs ls (ts.set k false).length us = true := by rw [List.length_set]; exact h
  have h1 : okU bs ls (ts.set k true).length us = true := by rw [List.length_set]; exact h
  obtain ⟨b, rfl, hb, hp⟩ := (mem_aliF h0).1 hz
  refine (mem_aliF h1).2 ⟨b, rfl, hb, Int.lt_of_lt_of_le hp ?_⟩
  exact gsum_le (fun c _ => (fd_bd (okU_bu h) c).1) (fun c _ hc => connB_iff.2 ((connB_iff.1 hc).mono fun x y hxy => (adj_set hk hkt x y).2 (.inl hxy)))
/-- Both ends of a line that is on are alive together. -/
theorem aliF_line {k : Nat} {l : L3} (h : okU bs ls ts.length us = true) (hk : ls[k]? = some l) (hkt : ts[k]? = some true) : decide (l.1 ∈ aliF bs ls ts us) = decide (l.2.1 ∈ aliF bs ls ts us) := by
  obtain ⟨a0, a1, b0, b1⟩ := line_in (okU_st h) hk
  have hc : Conn (edgesOn ls ts) l.1.toNat l.2.1.toNat := Conn.one (.inl (mem_edgesOn.2 ⟨k, l, hk, hkt, rfl⟩))
  have he := isum_congr (nb := bs.toNat) (f := fd us) hc
  rw [decide_eq_decide, mem_aliF h, mem_aliF h]
  constructor
  · rintro ⟨b, hb, _, hp⟩
    exact ⟨l.2.1.toNat, by omega, by omega, by rw [← he, show l.1.toNat = b by omega]; exact hp⟩
  · rintro ⟨b, hb, _, hp⟩
    exact ⟨l.1.toNat, by omega, by omega, by rw [he, show l.2.1.toNat = b by omega]; exact hp⟩
end
end Go.Proofs.YtapbmpodimdkpaaDoor
