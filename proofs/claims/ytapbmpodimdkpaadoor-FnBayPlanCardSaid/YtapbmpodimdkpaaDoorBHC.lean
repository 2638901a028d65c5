/- Texts joined: Radial, of the program; Radial, FedBy, of the model. -/
import Derived.Test.YtapbmpodimdkpaaDoorBQA
import Derived.Test.YtapbmpodimdkpaaDoorBCF
import Derived.Test.YtapbmpodimdkpaaDoorBFA
import Derived.Test.YtapbmpodimdkpaaDoorBQB

/- Radial, of the program. -/
namespace Go.Proofs.YtapbmpodimdkpaaDoor
open Go.ChangeShapes Go.WideShapes Go.ChangeAt Go.RowKit

/-- Which islands, by their numbers, have a feed among the first k buses. -/
noncomputable def fedTo (es : List E2) (us : List U2) (k : Nat) : List Bool := (List.range 8).map fun h => (List.range k).any fun b => decide (0 < fd us b) && leastF es b == h
theorem fedTo_len (es : List E2) (us : List U2) (k : Nat) : (fedTo es us k).length = 8 := by simp [fedTo]
theorem fedTo_get {es : List E2} {us : List U2} {k h : Nat} (hh : h < 8) : (fedTo es us k)[h]? = some ((List.range k).any fun b => decide (0 < fd us b) && leastF es b == h) := by
  rw [fedTo, List.getElem?_map, List.getElem?_range hh]; rfl
theorem fedTo_zero (es : List E2) (us : List U2) : fedTo es us 0 = List.replicate 8 false := by
  apply List.ext_getElem?
  intro b
  rcases Nat.lt_or_ge b 8 with hb | hb
  · rw [fedTo_get hb, List.getElem?_replicate, if_pos hb]; rfl
  · rw [List.getElem?_eq_none (by rw [fedTo_len]; exact hb), List.getElem?_eq_none (by simpa using hb)]
theorem fedTo_no {es : List E2} {us : List U2} {k : Nat} (h : ¬ 0 < fd us k) : fedTo es us (k + 1) = fedTo es us k := by
  unfold fedTo
  refine List.map_congr_left fun b _ => ?_
  rw [List.range_succ, List.any_append]
  simp [h]
theorem fedTo_yes {es : List E2} {us : List U2} {k : Nat} (h : 0 < fd us k) : fedTo es us (k + 1) = (fedTo es us k).set (leastF es k) true := by
  apply List.ext_getElem?
  intro b
  rcases Nat.lt_or_ge b 8 with hb | hb
  · rw [fedTo_get hb, List.getElem?_set, List.range_succ, List.any_append]
    by_cases e : leastF es k = b
    · subst e; simp [h, fedTo_len, hb]
    · rw [if_neg e, fedTo_get hb]; simp [h, e]
  · rw [List.getElem?_eq_none (by rw [fedTo_len]; exact hb), List.getElem?_eq_none (by rw [List.length_set, fedTo_len]; exact hb)]
/-- No two feeds among the first k buses are joined. -/
def OneTo (es : List E2) (us : List U2) (k : Nat) : Prop := ∀ b c, b < k → c < k → 0 < fd us b → 0 < fd us c → Conn es b c → b = c
theorem oneTo_no {es : List E2} {us : List U2} {k : Nat} (h : OneTo es us k) (hf : ¬ 0 < fd us k) : OneTo es us (k + 1) := by
  intro b c hb hc h1 h2 h3
  have e1 : b ≠ k := fun e => hf (e ▸ h1)
  have e2 : c ≠ k := fun e => hf (e ▸ h2)
  exact h b c (by omega) (by omega) h1 h2 h3
theorem oneTo_yes {es : List E2} {us : List U2} {k : Nat} (h : OneTo es us k) (hl : leastF es k < 8) (hf : (fedTo es us k)[leastF es k]? = some false) : OneTo es us (k + 1) := by
  rw [fedTo_get hl] at hf
  have hf := Option.some.inj hf
  rw [List.any_eq_false] at hf
  have key : ∀ b, b < k → 0 < fd us b → Conn es b k → False := fun b hb h1 h2 => by
    have := hf b (List.mem_range.2 hb)
    simp [h1, leastF_eq.2 h2] at this
  intro b c hb hc h1 h2 h3
  by_cases e1 : b = k
  · by_cases e2 : c = k
    · omega
    · subst e1; exact (key c (by omega) h2 h3.symm).elim
  · by_cases e2 : c = k
    · subst e2; exact (key b (by omega) h1 h3).elim
    · exact h b c (by omega) (by omega) h1 h2 h3
theorem oneTo_bad {es : List E2} {us : List U2} {k : Nat} (h0 : 0 < fd us k) (hl : leastF es k < 8) (hf : (fedTo es us k)[leastF es k]? = some true) : ¬ OneFeed es us := by
  rw [fedTo_get hl] at hf
  have hf := Option.some.inj hf
  rw [List.any_eq_true] at hf
  obtain ⟨b, hb, h2⟩ := hf
  have hb := List.mem_range.1 hb
  simp only [Bool.and_eq_true, decide_eq_true_eq, beq_iff_eq] at h2
  intro ho
  have := ho b k h2.1 h0 (leastF_eq.1 h2.2)
  omega
theorem oneTo_all {es : List E2} {us : List U2} {k : Nat} (h : OneTo es us k) (hk : us.length = k) : OneFeed es us := fun b c h1 h2 h3 =>
  h b c (by have := fd_lt h1; omega) (by have := fd_lt h2; omega) h1 h2 h3
theorem boolsB_at {bb : List Bool} {k : Nat} {t : Bool} (h : bb[k]? = some t) : (boolsB bb)[k]? = some (.bool t) := by simp [boolsB, h]
theorem boolsB_put (bb : List Bool) (k : Nat) (t : Bool) : (boolsB bb).setIfInBounds k (.bool t) = boolsB (bb.set k t) := by
  apply Array.ext'
  simp [boolsB, List.map_set]

end Go.Proofs.YtapbmpodimdkpaaDoor

/- Radial, FedBy, of the model. -/
namespace Go.Proofs.YtapbmpodimdkpaaDoor
open Go.ChangeShapes Go.WideShapes Go.ChangeAt Go.RowKit

theorem samF_in {nb : Nat} {ls : List L3} {ts : List Bool} {a b : Nat} (hs : stOk nb ls ts.length = true) (ha : a < nb) (hb : b < nb) : samF nb ls ts a b = connB (edgesOn ls ts) a b := by
  have e1 : inB (a : Int) 0 ((nb : Int) - 1) = true := by simp only [inB, Bool.and_eq_true, decide_eq_true_eq]; omega
  have e2 : inB (b : Int) 0 ((nb : Int) - 1) = true := by simp only [inB, Bool.and_eq_true, decide_eq_true_eq]; omega
  rw [samF, hs, e1, e2]; rfl
theorem oneTo_join {es : List E2} {us : List U2} {k : Nat} (h : OneTo es us k) (h2 : ∀ b, b < k → 0 < fd us k → 0 < fd us b → ¬ Conn es b k) : OneTo es us (k + 1) := by
  intro b c hb hc h3 h4 h5
  by_cases e1 : b = k
  · by_cases e2 : c = k
    · omega
    · subst e1; exact absurd h5.symm (h2 c (by omega) h3 h4)
  · by_cases e2 : c = k
    · subst e2; exact absurd h5 (h2 b (by omega) h4 h3)
    · exact h b c (by omega) (by omega) h3 h4 h5

theorem fbyF_none {bs : Int} {ls : List L3} {ts : List Bool} {us : List U2} {bus : Int} (h : (rchF bs ls ts bus).length = 0) : fbyF bs ls ts us bus = -1 := by
  rw [fbyF, if_neg]
  rintro ⟨h1, h2⟩
  have hs := okU_st (radF_iff.1 h1).1
  have h3 := h2
  simp only [inB, Bool.and_eq_true, decide_eq_true_eq] at h3
  have := rchF_self (bs := bs) (ls := ls) (ts := ts) (bus := bus) hs h3.1 (by omega)
  have := List.length_pos_of_mem this
  omega
theorem fbyF_some {bs : Int} {ls : List L3} {ts : List Bool} {us : List U2} {bus z : Int} (hr : radF bs ls ts us = true) (hz : z ∈ rchF bs ls ts bus) (hf : 0 < fd us z.toNat) : fbyF bs ls ts us bus = z := by
  obtain ⟨hok, _, ho⟩ := radF_iff.1 hr
  have hs := okU_st hok
  obtain ⟨_, h0, h1⟩ := rchF_some (List.length_pos_of_mem hz)
  obtain ⟨z0, z1, hc⟩ := (mem_rchF hs h0 h1).1 hz
  have hb : inB bus 0 (bs - 1) = true := by simp [inB]; omega
  have hul := busesOk_len (okU_bu hok)
  rw [fbyF, if_pos ⟨hr, hb⟩, feedOf_some ho hf hc.symm (by omega)]
  omega
theorem fbyF_no {bs : Int} {ls : List L3} {ts : List Bool} {us : List U2} {bus : Int} (hr : radF bs ls ts us = true) (h : ∀ z ∈ rchF bs ls ts bus, ¬ 0 < fd us z.toNat) : fbyF bs ls ts us bus = -1 := by
  by_cases hb : inB bus 0 (bs - 1) = true
  · obtain ⟨hok, _, ho⟩ := radF_iff.1 hr
    have hs := okU_st hok
    have h3 := hb
    simp only [inB, Bool.and_eq_true, decide_eq_true_eq] at h3
    have hul := busesOk_len (okU_bu hok)
    rw [fbyF, if_pos ⟨hr, hb⟩]
    refine feedOf_none ?_ _
    rw [Bool.eq_false_iff]; intro hfd
    obtain ⟨f, hf, hc⟩ := fedB_iff.1 hfd
    refine h (f : Int) ((mem_rchF hs h3.1 (by omega)).2 ⟨by omega, by have := fd_lt hf; omega, by simpa using hc.symm⟩) (by simpa using hf)
  · rw [fbyF, if_neg (fun h => hb h.2)]

end Go.Proofs.YtapbmpodimdkpaaDoor
