/- Islands: the facts that the promises of chapter 3 ask for, over the answers. -/
import Derived.Test.YtobbmnbkjeoheaaDoorI3
namespace Go.Proofs.YtobbmnbkjeoheaaDoor
open Go.RowKit

theorem ofN_mem {zs : List Nat} {z : Int} : z ∈ ofN zs ↔ ∃ b : Nat, b ∈ zs ∧ z = (b : Int) := by
  rw [ofN, List.mem_map]
  constructor
  · rintro ⟨b, hb, rfl⟩; exact ⟨b, hb, rfl⟩
  · rintro ⟨b, hb, rfl⟩; exact ⟨b, hb, rfl⟩
theorem rchF_some {bs : Int} {ls : List L3} {ts : List Bool} {bus : Int} (h : 0 < (rchF bs ls ts bus).length) : stOk bs ls ts.length = true ∧ 0 ≤ bus ∧ bus < bs := by
  rw [rchF] at h
  by_cases hc : stOk bs ls ts.length = true ∧ inB bus 0 (bs - 1) = true
  · have h2 := hc.2
    simp only [inB, Bool.and_eq_true, decide_eq_true_eq] at h2
    exact ⟨hc.1, by omega, by omega⟩
  · rw [if_neg hc] at h; simp at h
section
variable {bs : Int} {ls : List L3} {ts : List Bool} {bus : Int}
theorem rchF_of (hs : stOk bs ls ts.length = true) (h0 : 0 ≤ bus) (h1 : bus < bs) : rchF bs ls ts bus = ofN (reachF (edgesOn ls ts) bs.toNat bus.toNat) := by
  rw [rchF, if_pos ⟨hs, by simp only [inB, Bool.and_eq_true, decide_eq_true_eq]; omega⟩]
theorem mem_rchF (hs : stOk bs ls ts.length = true) (h0 : 0 ≤ bus) (h1 : bus < bs) {z : Int} : z ∈ rchF bs ls ts bus ↔ 0 ≤ z ∧ z < bs ∧ Conn (edgesOn ls ts) bus.toNat z.toNat := by
  rw [rchF_of hs h0 h1, ofN_mem]
  constructor
  · rintro ⟨b, hb, rfl⟩
    obtain ⟨h2, h3⟩ := mem_reachF.1 hb
    exact ⟨by omega, by omega, h3⟩
  · rintro ⟨h2, h3, h4⟩
    exact ⟨z.toNat, mem_reachF.2 ⟨by omega, h4⟩, by omega⟩
theorem rchF_same (hs : stOk bs ls ts.length = true) (h0 : 0 ≤ bus) (h1 : bus < bs) {z : Int} (hz : z ∈ rchF bs ls ts bus) : rchF bs ls ts z = rchF bs ls ts bus := by
  obtain ⟨h2, h3, h4⟩ := (mem_rchF hs h0 h1).1 hz
  rw [rchF_of hs h0 h1, rchF_of hs h2 h3, reachF_congr h4]
theorem rchF_self (hs : stOk bs ls ts.length = true) (h0 : 0 ≤ bus) (h1 : bus < bs) : bus ∈ rchF bs ls ts bus :=
  (mem_rchF hs h0 h1).2 ⟨h0, h1, Conn.refl _⟩
theorem line_in {k : Nat} {l : L3} (hs : stOk bs ls ts.length = true) (hk : ls[k]? = some l) : 0 ≤ l.1 ∧ l.1 < bs ∧ 0 ≤ l.2.1 ∧ l.2.1 < bs := by
  have h2 := netOk_line (stOk_net hs) hk
  simp [lineOk, inB] at h2
  omega
theorem rchF_line (hs : stOk bs ls ts.length = true) (h0 : 0 ≤ bus) (h1 : bus < bs) {k : Nat} {l : L3} (hk : ls[k]? = some l) (ht : ts[k]? = some true) : decide (l.1 ∈ rchF bs ls ts bus) = decide (l.2.1 ∈ rchF bs ls ts bus) := by
  obtain ⟨a0, a1, b0, b1⟩ := line_in hs hk
  have hc : Conn (edgesOn ls ts) l.1.toNat l.2.1.toNat := Conn.one (.inl (mem_edgesOn.2 ⟨k, l, hk, ht, rfl⟩))
  rw [decide_eq_decide, mem_rchF hs h0 h1, mem_rchF hs h0 h1]
  exact ⟨fun h => ⟨b0, b1, h.2.2.trans hc⟩, fun h => ⟨a0, a1, h.2.2.trans hc.symm⟩⟩
end
theorem rchF_asc (bs : Int) (ls : List L3) (ts : List Bool) (bus : Int) : ∀ (k : Nat) (x y : Int), (rchF bs ls ts bus)[k]? = some x → (rchF bs ls ts bus)[k + 1]? = some y → x < y := by
  intro k x y hx hy
  rw [rchF] at hx hy
  split at hx
  · rename_i hc
    rw [if_pos hc] at hy
    simp only [ofN, List.getElem?_map, Option.map_eq_some_iff] at hx hy
    obtain ⟨a, ha, rfl⟩ := hx
    obtain ⟨b, hb, rfl⟩ := hy
    have h := List.pairwise_iff_getElem.1 (reachF_ascend (edgesOn ls ts) bs.toNat bus.toNat) k (k + 1) (List.getElem?_eq_some_iff.1 ha).1 (List.getElem?_eq_some_iff.1 hb).1 (Nat.lt_succ_self k)
    rw [(List.getElem?_eq_some_iff.1 ha).2, (List.getElem?_eq_some_iff.1 hb).2] at h
    exact Int.ofNat_lt.2 h
  · simp at hx

theorem iofF_of {bs : Int} {ls : List L3} {ts : List Bool} (hs : stOk bs ls ts.length = true) : iofF bs ls ts = (heads (edgesOn ls ts) bs.toNat).map fun b => ofN (reachF (edgesOn ls ts) bs.toNat b) := by rw [iofF, if_pos hs]
theorem iofF_some {bs : Int} {ls : List L3} {ts : List Bool} (h : 0 < (iofF bs ls ts).length) : stOk bs ls ts.length = true := by
  rw [iofF] at h
  split at h
  · assumption
  · simp at h
theorem islF_of {bs : Int} {ls : List L3} {ts : List Bool} (hs : stOk bs ls ts.length = true) : islF bs ls ts = ofN (islL (edgesOn ls ts) bs.toNat) := by rw [islF, if_pos hs]
theorem islF_some {bs : Int} {ls : List L3} {ts : List Bool} (h : 0 < (islF bs ls ts).length) : stOk bs ls ts.length = true := by
  rw [islF] at h
  split at h
  · assumption
  · simp at h
theorem islF_at {bs : Int} {ls : List L3} {ts : List Bool} (hs : stOk bs ls ts.length = true) {b : Nat} (hb : b < bs.toNat) : (islF bs ls ts)[b]? = some (leastF (edgesOn ls ts) b : Int) := by
  rw [islF_of hs]; exact ofN_get (islL_get hb)
theorem islF_length {bs : Int} {ls : List L3} {ts : List Bool} (hs : stOk bs ls ts.length = true) : (islF bs ls ts).length = bs.toNat := by rw [islF_of hs, ofN_len, islL_len]
theorem iofF_length {bs : Int} {ls : List L3} {ts : List Bool} (hs : stOk bs ls ts.length = true) : (iofF bs ls ts).length = (heads (edgesOn ls ts) bs.toNat).length := by rw [iofF_of hs, List.length_map]
theorem iofF_few (bs : Int) (ls : List L3) (ts : List Bool) : (iofF bs ls ts).length ≤ 8 := by
  by_cases hs : stOk bs ls ts.length = true
  · rw [iofF_length hs]
    have := heads_len (edgesOn ls ts) bs.toNat
    have := (stOk_bs hs).2
    omega
  · rw [iofF, if_neg hs]; simp

/-! P1 -/
theorem stOk_set {bs : Int} {ls : List L3} {ts : List Bool} (hs : stOk bs ls ts.length = true) (k : Nat) (t : Bool) : stOk bs ls (ts.set k t).length = true := by rw [List.length_set]; exact hs
theorem isl_switch {bs : Int} {ls : List L3} {ts : List Bool} {k : Nat} {l : L3} (hs : stOk bs ls ts.length = true) (hk : ls[k]? = some l) (hkt : k < ts.length) :
    ((iofF bs ls (ts.set k false)).length : Int) - ((iofF bs ls (ts.set k true)).length : Int) = if samF bs ls (ts.set k false) l.1 l.2.1 = true then 0 else 1 := by
  obtain ⟨a0, a1, b0, b1⟩ := line_in hs hk
  have hsam : samF bs ls (ts.set k false) l.1 l.2.1 = connB (edgesOn ls (ts.set k false)) l.1.toNat l.2.1.toNat := by
    have e1 : inB l.1 0 (bs - 1) = true := by simp only [inB, Bool.and_eq_true, decide_eq_true_eq]; omega
    have e2 : inB l.2.1 0 (bs - 1) = true := by simp only [inB, Bool.and_eq_true, decide_eq_true_eq]; omega
    rw [samF, stOk_set hs, e1, e2]; rfl
  rw [iofF_length (stOk_set hs k false), iofF_length (stOk_set hs k true), hsam]
  exact heads_switch (stOk_net hs) hk hkt

/-! P72 -/
def sumTo (xss : List (List Int)) (k : Nat) : Nat := ((xss.take k).map List.length).sum
theorem sumTo_succ {xss : List (List Int)} {k : Nat} {zs : List Int} (h : xss[k]? = some zs) : sumTo xss (k + 1) = sumTo xss k + zs.length := by
  rw [sumTo, sumTo, List.take_add_one, h]; simp
theorem sumTo_le (xss : List (List Int)) : ∀ k : Nat, sumTo xss k ≤ (xss.map List.length).sum := by
  induction xss with
  | nil => intro k; simp [sumTo]
  | cons a t ih =>
    intro k
    cases k with
    | zero => simp [sumTo]
    | succ k => have := ih k; simp [sumTo] at this ⊢; omega
theorem iofF_sum {bs : Int} {ls : List L3} {ts : List Bool} (hs : stOk bs ls ts.length = true) : ((iofF bs ls ts).map List.length).sum = bs.toNat := by
  rw [iofF_of hs, List.map_map]
  have h := heads_sum (edgesOn ls ts) bs.toNat
  have e : (List.length ∘ fun b => ofN (reachF (edgesOn ls ts) bs.toNat b)) = fun h => (reachF (edgesOn ls ts) bs.toNat h).length := by
    funext b; simp [ofN_len]
  rw [e]; exact h
theorem sumTo_all (xss : List (List Int)) : sumTo xss xss.length = (xss.map List.length).sum := by rw [sumTo, List.take_length]
/-- An island begins with its number, and is the number of each of its buses. -/
theorem iofF_at {bs : Int} {ls : List L3} {ts : List Bool} (hs : stOk bs ls ts.length = true) {j : Nat} {zs : List Int} (h : (iofF bs ls ts)[j]? = some zs) :
    ∃ m : Nat, zs[0]? = some (m : Int) ∧ 0 < zs.length ∧ zs.length ≤ 8 ∧ ∀ (i : Nat) (z : Int), zs[i]? = some z → ∃ b : Nat, z = (b : Int) ∧ b < bs.toNat ∧ (islF bs ls ts)[b]? = some (m : Int) := by
  rw [iofF_of hs, List.getElem?_map, Option.map_eq_some_iff] at h
  obtain ⟨m, hm, rfl⟩ := h
  obtain ⟨hm1, hm2⟩ := mem_heads.1 (List.mem_of_getElem? hm)
  have hh := reachF_head (es := edgesOn ls ts) hm1
  rw [hm2, List.head?_eq_getElem?] at hh
  refine ⟨m, ofN_get hh, by rw [ofN_len]; exact (List.getElem?_eq_some_iff.1 hh).1, ?_, fun i z hz => ?_⟩
  · rw [ofN_len, rchTo_all]
    have := rchTo_len (edgesOn ls ts) m bs.toNat
    have := (stOk_bs hs).2
    omega
  · rw [ofN, List.getElem?_map, Option.map_eq_some_iff] at hz
    obtain ⟨b, hb, rfl⟩ := hz
    have hbm := List.mem_of_getElem? hb
    have hbl := (mem_reachF.1 hbm).1
    exact ⟨b, rfl, hbl, by rw [islF_at hs hbl, reach_least hm2 hbm]⟩

/-! P73 -/
theorem samF_comm (bs : Int) (ls : List L3) (ts : List Bool) (a b : Int) : samF bs ls ts b a = samF bs ls ts a b := by
  rw [samF, samF, connB_symm]
  cases stOk bs ls ts.length <;> cases inB a 0 (bs - 1) <;> cases inB b 0 (bs - 1) <;> rfl
theorem samF_no {bs : Int} {ls : List L3} {ts : List Bool} {a b : Int} (h : stOk bs ls ts.length = false ∨ a < 0 ∨ bs ≤ a ∨ b < 0 ∨ bs ≤ b) : samF bs ls ts a b = false := by
  rw [Bool.eq_false_iff]
  intro e
  simp only [samF, inB, Bool.and_eq_true, decide_eq_true_eq] at e
  obtain ⟨⟨⟨e0, e1⟩, e2⟩, _⟩ := e
  rcases h with h | h
  · rw [h] at e0; cases e0
  · omega
theorem samF_at {bs : Int} {ls : List L3} {ts : List Bool} {a b : Nat} (hs : stOk bs ls ts.length = true) (ha : (a : Int) < bs) (hb : (b : Int) < bs) :
    ((leastF (edgesOn ls ts) a : Int) == (leastF (edgesOn ls ts) b : Int)) = samF bs ls ts a b := by
  have e1 : inB (a : Int) 0 (bs - 1) = true := by simp only [inB, Bool.and_eq_true, decide_eq_true_eq]; omega
  have e2 : inB (b : Int) 0 (bs - 1) = true := by simp only [inB, Bool.and_eq_true, decide_eq_true_eq]; omega
  rw [samF, hs, e1, e2, Bool.eq_iff_iff, beq_iff_eq]
  show _ ↔ connB (edgesOn ls ts) a b = true
  rw [connB_iff, ← leastF_eq]
  omega
theorem samF_self {bs : Int} {ls : List L3} {ts : List Bool} {a : Nat} (hs : stOk bs ls ts.length = true) (ha : (a : Int) < bs) : samF bs ls ts a a = true := by
  rw [← samF_at hs ha ha]; simp
end Go.Proofs.YtobbmnbkjeoheaaDoor
