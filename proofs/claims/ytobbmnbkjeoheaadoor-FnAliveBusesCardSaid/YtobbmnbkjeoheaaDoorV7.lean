/- Plain facts on chapter 5's promises. -/
import Derived.Test.YtobbmnbkjeoheaaDoorK0
import Derived.Test.YtobbmnbkjeoheaaDoorV1
namespace Go.Proofs.YtobbmnbkjeoheaaDoor
open Go.RowKit

section
variable {bs : Int} {ls : List L3} {ts : List Bool} {us : List U2} {bus : Int}
theorem feedF_ok (h : okU bs ls ts.length us = true) (h0 : 0 ≤ bus) (h1 : bus < bs) : feedF bs ls ts us bus = isum (edgesOn ls ts) bs.toNat (fd us) bus.toNat := by
  have hi : inB bus 0 (bs - 1) = true := by simp [inB]; omega
  rw [feedF, h, hi]; simp
theorem loadF_ok (h : okU bs ls ts.length us = true) (h0 : 0 ≤ bus) (h1 : bus < bs) : loadF bs ls ts us bus = isum (edgesOn ls ts) bs.toNat (ld us) bus.toNat := by
  have hi : inB bus 0 (bs - 1) = true := by simp [inB]; omega
  rw [loadF, h, hi]; simp
/-- Less than 0 is the fixed answer; else all arguments are valid. -/
theorem feedF_some : feedF bs ls ts us bus = -1 ∨ (okU bs ls ts.length us = true ∧ 0 ≤ bus ∧ bus < bs ∧ 0 ≤ feedF bs ls ts us bus) := by
  by_cases h : okU bs ls ts.length us = true ∧ inB bus 0 (bs - 1) = true
  · obtain ⟨h0, h1⟩ := h
    simp only [inB, Bool.and_eq_true, decide_eq_true_eq] at h1
    have hb := okU_bs h0
    refine .inr ⟨h0, h1.1, by omega, ?_⟩
    rw [feedF_ok h0 h1.1 (by omega)]
    exact (isum_bd (by omega) (fd_bd (okU_bu h0))).1
  · exact .inl (by rw [feedF, if_neg h])
theorem loadF_some : loadF bs ls ts us bus = -1 ∨ (okU bs ls ts.length us = true ∧ 0 ≤ bus ∧ bus < bs ∧ 0 ≤ loadF bs ls ts us bus) := by
  by_cases h : okU bs ls ts.length us = true ∧ inB bus 0 (bs - 1) = true
  · obtain ⟨h0, h1⟩ := h
    simp only [inB, Bool.and_eq_true, decide_eq_true_eq] at h1
    have hb := okU_bs h0
    refine .inr ⟨h0, h1.1, by omega, ?_⟩
    rw [loadF_ok h0 h1.1 (by omega)]
    exact (isum_bd (by omega) (ld_bd (okU_bu h0))).1
  · exact .inl (by rw [loadF, if_neg h])
theorem samF_conn {a b : Int} (h : samF bs ls ts a b = true) : Conn (edgesOn ls ts) a.toNat b.toNat := by
  simp only [samF, Bool.and_eq_true] at h
  exact connB_iff.1 h.2
theorem serF_some : serF bs ls ts us = -1 ∨ (okU bs ls ts.length us = true ∧ serF bs ls ts us = gsum (serB (edgesOn ls ts) bs.toNat us) (ld us) bs.toNat ∧ 0 ≤ serF bs ls ts us) := by
  by_cases h : okU bs ls ts.length us = true
  · have hb := okU_bs h
    have e : serF bs ls ts us = gsum (serB (edgesOn ls ts) bs.toNat us) (ld us) bs.toNat := by rw [serF, if_pos h]
    refine .inr ⟨h, e, ?_⟩
    rw [e]; exact (gsum_bd (M := 999) (fun c _ => ld_bd (okU_bu h) c)).1
  · exact .inl (by rw [serF, if_neg h])
end
/-- The islands' heads, one by one. -/
theorem iofF_head {bs : Int} {ls : List L3} {ts : List Bool} (hs : stOk bs ls ts.length = true) : (iofF bs ls ts).length = (heads (edgesOn ls ts) bs.toNat).length ∧
    ∀ (j : Nat) (zs : List Int), (iofF bs ls ts)[j]? = some zs → ∃ h : Nat, (heads (edgesOn ls ts) bs.toNat)[j]? = some h ∧ zs[0]? = some (h : Int) ∧ 0 < zs.length ∧ zs.length ≤ 8 ∧ h < bs.toNat := by
  refine ⟨iofF_length hs, fun j zs hj => ?_⟩
  have h := hj
  rw [iofF_of hs, List.getElem?_map, Option.map_eq_some_iff] at h
  obtain ⟨m, hm, rfl⟩ := h
  obtain ⟨hm1, hm2⟩ := mem_heads.1 (List.mem_of_getElem? hm)
  have hh := reachF_head (es := edgesOn ls ts) hm1
  rw [hm2, List.head?_eq_getElem?] at hh
  refine ⟨m, hm, ofN_get hh, by rw [ofN_len]; exact (List.getElem?_eq_some_iff.1 hh).1, ?_, hm1⟩
  rw [ofN_len, rchTo_all]
  have := rchTo_len (edgesOn ls ts) m bs.toNat
  have := (stOk_bs hs).2
  omega
theorem isum_heads (es : List E2) (nb : Nat) (f : Nat → Int) : lsum (isum es nb f) (heads es nb) (heads es nb).length = gsum (fun _ => true) f nb := by
  rw [lsum_all]; exact heads_all es nb f
theorem gall_bd {f : Nat → Int} {k : Nat} (hf : ∀ b, 0 ≤ f b ∧ f b ≤ 999) (hk : k ≤ 8) : 0 ≤ gsum (fun _ => true) f k ∧ gsum (fun _ => true) f k ≤ 7992 := by
  have := gsum_bd (p := fun _ => true) (f := f) (M := 999) (k := k) (fun c _ => hf c)
  omega
theorem lsum_isum_bd {es : List E2} {nb k : Nat} {f : Nat → Int} (hf : ∀ b, 0 ≤ f b ∧ f b ≤ 999) (hnb : nb ≤ 8) (hk : k ≤ (heads es nb).length) : 0 ≤ lsum (isum es nb f) (heads es nb) k ∧ lsum (isum es nb f) (heads es nb) k ≤ 63936 := by
  have h := lsum_bd (f := isum es nb f) (hs := heads es nb) (M := 7992) (fun h _ => isum_bd hnb hf) k hk
  have := heads_len es nb
  omega
/-- What the island of a head wants, if it has enough. -/
noncomputable def serH (es : List E2) (nb : Nat) (us : List U2) (h : Nat) : Int := if serB es nb us h = true then isum es nb (ld us) h else 0
theorem ser_heads (es : List E2) (nb : Nat) (us : List U2) : lsum (serH es nb us) (heads es nb) (heads es nb).length = gsum (serB es nb us) (ld us) nb := by
  rw [lsum_all]
  have h := heads_gsum es nb (serB es nb us) (ld us) nb (Nat.le_refl _)
  have e : gsum (fun b => serB es nb us (leastF es b)) (ld us) nb = gsum (serB es nb us) (ld us) nb := gsum_congr fun b _ => ⟨by
    have hc := (leastF_spec es b).1
    rw [serB, serB, isum_congr hc, isum_congr (f := fd us) hc], rfl⟩
  rw [← e, ← h]; rfl
theorem serH_yes {es : List E2} {nb : Nat} {us : List U2} {h : Nat} (k : isum es nb (ld us) h ≤ isum es nb (fd us) h) : serH es nb us h = isum es nb (ld us) h := by
  rw [serH, if_pos (by simpa [serB] using k)]
theorem serH_no {es : List E2} {nb : Nat} {us : List U2} {h : Nat} (k : ¬ isum es nb (ld us) h ≤ isum es nb (fd us) h) : serH es nb us h = 0 := by
  rw [serH, if_neg (by simpa [serB] using k)]
theorem serH_bd {es : List E2} {nb : Nat} {us : List U2} (hf : ∀ b, 0 ≤ ld us b ∧ ld us b ≤ 999) (hnb : nb ≤ 8) (h : Nat) : 0 ≤ serH es nb us h ∧ serH es nb us h ≤ 7992 := by
  have := isum_bd (es := es) (b := h) hnb hf
  unfold serH; split <;> omega
theorem lsum_serH_bd {es : List E2} {nb k : Nat} {us : List U2} (hf : ∀ b, 0 ≤ ld us b ∧ ld us b ≤ 999) (hnb : nb ≤ 8) (hk : k ≤ (heads es nb).length) : 0 ≤ lsum (serH es nb us) (heads es nb) k ∧ lsum (serH es nb us) (heads es nb) k ≤ 63936 := by
  have h := lsum_bd (f := serH es nb us) (hs := heads es nb) (M := 7992) (fun h _ => serH_bd hf hnb h) k hk
  have := heads_len es nb
  omega
end Go.Proofs.YtobbmnbkjeoheaaDoor
