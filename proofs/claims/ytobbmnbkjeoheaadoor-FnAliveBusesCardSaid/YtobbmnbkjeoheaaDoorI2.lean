/- Islands, plain facts: numbers that fall along lines until the least bus of each island is left; the answers of chapter 3. -/
import Derived.Test.YtobbmnbkjeoheaaDoorI1
import Derived.Test.YtobbmnbkjeoheaaDoorB2
namespace Go.Proofs.YtobbmnbkjeoheaaDoor
open Go.RowKit

/-- Numbers of the buses, as the program keeps them while they fall. -/
def NumInv (es : List E2) (nb : Nat) (zs : List Nat) : Prop := zs.length = nb ∧ ∀ b z, zs[b]? = some z → z ≤ b ∧ Conn es b z
theorem numInv_start (es : List E2) (nb : Nat) : NumInv es nb (List.range nb) := by
  refine ⟨by simp, fun b z h => ?_⟩
  have hb : b < nb := by have := (List.getElem?_eq_some_iff.1 h).1; simpa using this
  rw [List.getElem?_range hb] at h
  injection h with h; subst h
  exact ⟨Nat.le_refl _, Conn.refl _⟩
theorem set2_get {α : Type} {zs : List α} {a b c : Nat} {m z : α} (h : ((zs.set a m).set b m)[c]? = some z) : ((c = a ∨ c = b) ∧ z = m) ∨ zs[c]? = some z := by
  simp only [List.getElem?_set, List.length_set] at h
  by_cases h1 : b = c
  · rw [if_pos h1] at h
    split at h
    · injection h with h; exact .inl ⟨.inr h1.symm, h.symm⟩
    · cases h
  · rw [if_neg h1] at h
    by_cases h2 : a = c
    · rw [if_pos h2] at h
      split at h
      · injection h with h; exact .inl ⟨.inl h2.symm, h.symm⟩
      · cases h
    · rw [if_neg h2] at h; exact .inr h
/-- Both ends of a line take the lesser number. -/
theorem numInv_step {es : List E2} {nb : Nat} {zs : List Nat} {a b x y : Nat} (h : NumInv es nb zs) (he : (a, b) ∈ es) (hx : zs[a]? = some x) (hy : zs[b]? = some y) : NumInv es nb ((zs.set a (min x y)).set b (min x y)) := by
  refine ⟨by simpa using h.1, fun c z hc => ?_⟩
  obtain ⟨xa, xc⟩ := h.2 a x hx
  obtain ⟨yb, yc⟩ := h.2 b y hy
  have hab : Conn es a b := Conn.one (.inl he)
  rcases set2_get hc with ⟨hcab, rfl⟩ | hc
  · rcases Nat.le_total x y with hxy | hxy
    · rw [Nat.min_eq_left hxy]
      rcases hcab with rfl | rfl
      · exact ⟨xa, xc⟩
      · exact ⟨by omega, hab.symm.trans xc⟩
    · rw [Nat.min_eq_right hxy]
      rcases hcab with rfl | rfl
      · exact ⟨by omega, hab.trans yc⟩
      · exact ⟨yb, yc⟩
  · exact h.2 c z hc
theorem sum_set : ∀ (zs : List Nat) (a x m : Nat), zs[a]? = some x → (zs.set a m).sum + x = zs.sum + m
  | [], a, x, m, h => by simp at h
  | z :: zs, 0, x, m, h => by simp at h; subst h; simp; omega
  | z :: zs, a + 1, x, m, h => by
    have := sum_set zs a x m (by simpa using h)
    simp; omega
theorem sum_step {zs : List Nat} {a b x y : Nat} (hab : a ≠ b) (hx : zs[a]? = some x) (hy : zs[b]? = some y) (hne : x ≠ y) : ((zs.set a (min x y)).set b (min x y)).sum < zs.sum := by
  have h1 := sum_set zs a x (min x y) hx
  have h2 := sum_set (zs.set a (min x y)) b y (min x y) (by rw [List.getElem?_set_ne hab]; exact hy)
  omega
/-- Where both ends of each line have the same number, each has the least one of its island. -/
theorem numInv_end {es : List E2} {nb : Nat} {zs : List Nat} (h : NumInv es nb zs) (_hes : ∀ e ∈ es, e.1 < nb ∧ e.2 < nb) (hq : ∀ e ∈ es, zs[e.1]? = zs[e.2]?) : zs = (List.range nb).map (leastF es) := by
  apply List.ext_getElem?
  intro b
  rcases Nat.lt_or_ge b nb with hb | hb
  · rw [List.getElem?_map, List.getElem?_range hb, Option.map_some]
    obtain ⟨l1, l2, l3⟩ := leastF_spec es b
    obtain ⟨z, hz⟩ : ∃ z, zs[b]? = some z := ⟨_, List.getElem?_eq_getElem (by rw [h.1]; exact hb)⟩
    obtain ⟨z1, z2⟩ := h.2 b _ hz
    have hm : zs[leastF es b]? = some z := Conn.closed (p := fun c => zs[c]? = some z) (fun e he => by rw [hq e he]) l1 hz
    obtain ⟨m1, _⟩ := h.2 _ _ hm
    have := l3 _ z2
    rw [hz]; congr 1; omega
  · rw [List.getElem?_eq_none (by rw [h.1]; exact hb), List.getElem?_eq_none (by simpa using hb)]

/-! The answers of chapter 3 -/
def ofN (zs : List Nat) : List Int := zs.map Int.ofNat
noncomputable def islL (es : List E2) (nb : Nat) : List Nat := (List.range nb).map (leastF es)
noncomputable def islF (bs : Int) (ls : List L3) (ts : List Bool) : List Int := if stOk bs ls ts.length = true then ofN (islL (edgesOn ls ts) bs.toNat) else []
noncomputable def rchF (bs : Int) (ls : List L3) (ts : List Bool) (bus : Int) : List Int := if stOk bs ls ts.length = true ∧ inB bus 0 (bs - 1) = true then ofN (reachF (edgesOn ls ts) bs.toNat bus.toNat) else []
noncomputable def samF (bs : Int) (ls : List L3) (ts : List Bool) (a b : Int) : Bool := stOk bs ls ts.length && inB a 0 (bs - 1) && inB b 0 (bs - 1) && connB (edgesOn ls ts) a.toNat b.toNat
/-- The least buses of the islands. -/
noncomputable def heads (es : List E2) (k : Nat) : List Nat := (List.range k).filter fun b => leastF es b == b
noncomputable def iofF (bs : Int) (ls : List L3) (ts : List Bool) : List (List Int) := if stOk bs ls ts.length = true then (heads (edgesOn ls ts) bs.toNat).map fun b => ofN (reachF (edgesOn ls ts) bs.toNat b) else []
theorem ofN_len (zs : List Nat) : (ofN zs).length = zs.length := by simp [ofN]
theorem ofN_get {zs : List Nat} {k z : Nat} (h : zs[k]? = some z) : (ofN zs)[k]? = some (z : Int) := by rw [ofN, List.getElem?_map, h]; rfl
theorem islL_len (es : List E2) (nb : Nat) : (islL es nb).length = nb := by simp [islL]
theorem islL_get {es : List E2} {nb b : Nat} (h : b < nb) : (islL es nb)[b]? = some (leastF es b) := by rw [islL, List.getElem?_map, List.getElem?_range h]; rfl
theorem stOk_net {bs : Int} {ls : List L3} {m : Nat} (h : stOk bs ls m = true) : netOk bs ls = true := by
  simp only [stOk, Bool.and_eq_true] at h; exact h.1
theorem stOk_bs {bs : Int} {ls : List L3} {m : Nat} (h : stOk bs ls m = true) : 1 ≤ bs ∧ bs ≤ 8 := ⟨(netOk_len (stOk_net h)).1, (netOk_len (stOk_net h)).2.1⟩
/-- The buses among the first k that are reached. -/
noncomputable def rchTo (es : List E2) (bus k : Nat) : List Nat := (List.range k).filter (connB es bus)
theorem rchTo_yes {es : List E2} {bus k : Nat} (h : connB es bus k = true) : rchTo es bus (k + 1) = rchTo es bus k ++ [k] := by
  rw [rchTo, List.range_succ, List.filter_append, List.filter_cons, h]; rfl
theorem rchTo_no {es : List E2} {bus k : Nat} (h : connB es bus k = false) : rchTo es bus (k + 1) = rchTo es bus k := by
  rw [rchTo, List.range_succ, List.filter_append, List.filter_cons, h]; simp [rchTo]
theorem rchTo_len (es : List E2) (bus k : Nat) : (rchTo es bus k).length ≤ k := Nat.le_trans (List.length_filter_le _ _) (by simp)
theorem rchTo_all (es : List E2) (nb bus : Nat) : reachF es nb bus = rchTo es bus nb := rfl
theorem heads_yes {es : List E2} {k : Nat} (h : leastF es k = k) : heads es (k + 1) = heads es k ++ [k] := by
  rw [heads, List.range_succ, List.filter_append, List.filter_cons, if_pos (by simp [h])]; rfl
theorem heads_no {es : List E2} {k : Nat} (h : leastF es k ≠ k) : heads es (k + 1) = heads es k := by
  rw [heads, List.range_succ, List.filter_append, List.filter_cons, if_neg (by simp [h])]; simp [heads]
theorem heads_len (es : List E2) (k : Nat) : (heads es k).length ≤ k := Nat.le_trans (List.length_filter_le _ _) (by simp)
theorem leastF_lt {es : List E2} {nb b : Nat} (hb : b < nb) : leastF es b < nb := Nat.lt_of_le_of_lt (leastF_spec es b).2.1 hb
theorem rchF_len (bs : Int) (ls : List L3) (ts : List Bool) (bus : Int) : (rchF bs ls ts bus).length ≤ 8 := by
  rw [rchF]; split
  · rename_i h
    have := (stOk_bs h.1).2
    rw [ofN_len, rchTo_all]
    have := rchTo_len (edgesOn ls ts) bus.toNat bs.toNat
    omega
  · simp
theorem islF_len (bs : Int) (ls : List L3) (ts : List Bool) : (islF bs ls ts).length ≤ 8 := by
  rw [islF]; split
  · rename_i h
    have := (stOk_bs h).2
    rw [ofN_len, islL_len]; omega
  · simp
end Go.Proofs.YtobbmnbkjeoheaaDoor
