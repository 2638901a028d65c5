/- Drops, plain facts: what is lost on the way to a bus, the worst bus, the room for more load; more load never makes a drop less. -/
import Derived.Test.YtpmkeagdoehbhaaDoorBZA
namespace Go.Proofs.YtpmkeagdoehbhaaDoor
open Go.RowKit

/-- There is one resistance in 0..9 for each of m lines. -/
def ohmOk (m : Nat) (os : List Int) : Bool := decide (os.length = m) && os.all fun o => inB o 0 9
def ohmAt (os : List Int) (k : Nat) : Int := os.getD k 0
theorem ohmOk_len {m : Nat} {os : List Int} (h : ohmOk m os = true) : os.length = m := by
  simp only [ohmOk, Bool.and_eq_true, decide_eq_true_eq] at h; exact h.1
theorem ohmAt_bd {m : Nat} {os : List Int} (h : ohmOk m os = true) (k : Nat) : 0 ≤ ohmAt os k ∧ ohmAt os k ≤ 9 := by
  simp only [ohmOk, Bool.and_eq_true, decide_eq_true_eq] at h
  rcases hk : os[k]? with _ | o
  · rw [ohmAt, List.getD_eq_getElem?_getD, hk]; simp
  · have := List.all_eq_true.1 h.2 o (List.mem_of_getElem? hk)
    simp only [inB, Bool.and_eq_true, decide_eq_true_eq] at this
    rw [ohmAt, List.getD_eq_getElem?_getD, hk]
    simp only [Option.getD_some]; omega
theorem ohmAt_get {os : List Int} {k : Nat} {o : Int} (h : os[k]? = some o) : ohmAt os k = o := by rw [ohmAt, List.getD_eq_getElem?_getD, h]; rfl
/-- The first k resistances are in 0..9. -/
def ohmTo (os : List Int) (k : Nat) : Prop := ∀ j o, j < k → os[j]? = some o → inB o 0 9 = true
theorem ohmTo_next {os : List Int} {k : Nat} {o : Int} (h : ohmTo os k) (hk : os[k]? = some o) (ho : inB o 0 9 = true) : ohmTo os (k + 1) := by
  intro j o' hj hjo
  by_cases e : j = k
  · subst e; rw [hk] at hjo; injection hjo with e; subst e; exact ho
  · exact h j o' (by omega) hjo
theorem ohmTo_all {os : List Int} {m : Nat} (hl : os.length = m) (h : ohmTo os m) : ohmOk m os = true := by
  simp only [ohmOk, Bool.and_eq_true, decide_eq_true_eq]
  refine ⟨hl, List.all_eq_true.2 fun o ho => ?_⟩
  obtain ⟨j, hj, e⟩ := List.getElem_of_mem ho
  exact h j o (by omega) (by rw [List.getElem?_eq_getElem hj, e])
theorem ohm_bad {os : List Int} {m k : Nat} {o : Int} (hk : os[k]? = some o) (ho : inB o 0 9 = false) : ohmOk m os = false := by
  rw [Bool.eq_false_iff]; intro h
  simp only [ohmOk, Bool.and_eq_true] at h
  have := List.all_eq_true.1 h.2 o (List.mem_of_getElem? hk)
  rw [ho] at this; cases this
theorem ohm_short {os : List Int} {m : Nat} (h : os.length ≠ m) : ohmOk m os = false := by
  rw [Bool.eq_false_iff]; intro h2; exact h (ohmOk_len h2)

/-- What line k takes away; what is lost on the way to bus b; the drop at bus b, -1 where there is no life. -/
noncomputable def lossF (ls : List L3) (ts : List Bool) (us : List U2) (os : List Int) (nb k : Nat) : Int := flo ls ts us nb k * ohmAt os k
noncomputable def drp (ls : List L3) (ts : List Bool) (us : List U2) (os : List Int) (nb b : Nat) : Int := lsum (lossF ls ts us os nb) (wayF ls ts us b).reverse (wayF ls ts us b).reverse.length
noncomputable def drpV (ls : List L3) (ts : List Bool) (us : List U2) (os : List Int) (nb b : Nat) : Int := if fedB (edgesOn ls ts) us b = true then drp ls ts us os nb b else -1
noncomputable def drpL (ls : List L3) (ts : List Bool) (us : List U2) (os : List Int) (nb : Nat) : List Int := (List.range nb).map (drpV ls ts us os nb)
/-- All arguments are valid. -/
noncomputable def okO (bs : Int) (ls : List L3) (ts : List Bool) (us : List U2) (os : List Int) : Bool := radF bs ls ts us && ohmOk ts.length os
noncomputable def drpF (bs : Int) (ls : List L3) (ts : List Bool) (us : List U2) (os : List Int) (bus : Int) : Int := if okO bs ls ts us os = true ∧ inB bus 0 (bs - 1) = true then drpV ls ts us os bs.toNat bus.toNat else -1
theorem okO_iff {bs : Int} {ls : List L3} {ts : List Bool} {us : List U2} {os : List Int} : okO bs ls ts us os = true ↔ radF bs ls ts us = true ∧ ohmOk ts.length os = true := by rw [okO, Bool.and_eq_true]
section
variable {bs : Int} {ls : List L3} {ts : List Bool} {us us' : List U2} {os : List Int} {k o b j nb m : Nat} {ws : List Nat}
theorem drpL_len : (drpL ls ts us os nb).length = nb := by simp [drpL]
theorem drpL_get (hb : b < nb) : (drpL ls ts us os nb)[b]? = some (drpV ls ts us os nb b) := by rw [drpL, List.getElem?_map, List.getElem?_range hb]; rfl
theorem lossF_bd {ls' : List L3} {m' : Nat} (hb : busesOk bs ls' us = true) (hn : nb ≤ 8) (ho : ohmOk m' os = true) (k : Nat) : 0 ≤ lossF ls ts us os nb k ∧ lossF ls ts us os nb k ≤ 71928 := by
  have h1 := flo_bd (ls := ls) (ts := ts) hb hn k
  have h2 := ohmAt_bd ho k
  unfold lossF
  refine ⟨Int.mul_nonneg h1.1 h2.1, ?_⟩
  have := Int.mul_le_mul h1.2 h2.2 h2.1 (by omega : (0 : Int) ≤ 7992)
  omega
theorem lossTo_bd {ls' : List L3} {m' : Nat} (hb : busesOk bs ls' us = true) (hn : nb ≤ 8) (ho : ohmOk m' os = true) {xs : List Nat} (hx : xs.length ≤ 10) {j : Nat} (hj : j ≤ xs.length) : 0 ≤ lsum (lossF ls ts us os nb) xs j ∧ lsum (lossF ls ts us os nb) xs j ≤ 719280 := by
  have := lsum_bd (f := lossF ls ts us os nb) (hs := xs) (M := 71928) (fun h _ => lossF_bd hb hn ho h) j hj
  omega
theorem drp_sum : drp ls ts us os nb b = ((wayF ls ts us b).map (lossF ls ts us os nb)).sum := by
  rw [drp, lsum_all, List.map_reverse, List.sum_reverse]
theorem drp_nil (h : wayF ls ts us b = []) : drp ls ts us os nb b = 0 := by rw [drp_sum, h]; rfl
theorem drp_cons (h : wayF ls ts us b = k :: ws) (h2 : wayF ls ts us o = ws) : drp ls ts us os nb b = lossF ls ts us os nb k + drp ls ts us os nb o := by
  rw [drp_sum, drp_sum, h, h2, List.map_cons, List.sum_cons]
theorem sum_le : ∀ {xs : List Nat} {f g : Nat → Int}, (∀ x ∈ xs, f x ≤ g x) → (xs.map f).sum ≤ (xs.map g).sum
  | [], _, _, _ => by simp
  | x :: xs, f, g, h => by
    have ih := sum_le (xs := xs) (f := f) (g := g) (fun y hy => h y (by simp [hy]))
    have := h x (by simp)
    rw [List.map_cons, List.map_cons, List.sum_cons, List.sum_cons]; omega
theorem sum_nn : ∀ {xs : List Nat} {f : Nat → Int}, (∀ x ∈ xs, 0 ≤ f x) → 0 ≤ (xs.map f).sum
  | [], _, _ => by simp
  | x :: xs, f, h => by
    have ih := sum_nn (xs := xs) (f := f) (fun y hy => h y (by simp [hy]))
    have := h x (by simp)
    rw [List.map_cons, List.sum_cons]; omega
theorem drp_nn (h : okO (nb : Int) ls ts us os = true) (b : Nat) : 0 ≤ drp ls ts us os nb b := by
  obtain ⟨h1, h2⟩ := okO_iff.1 h
  have hok := (radF_iff.1 h1).1
  have hbs := okU_bs hok
  rw [drp_sum]
  exact sum_nn fun x _ => (lossF_bd (okU_bu hok) (by omega) h2 x).1
theorem drp_bd (h : okO (nb : Int) ls ts us os = true) (b : Nat) : drp ls ts us os nb b ≤ 719280 := by
  obtain ⟨h1, h2⟩ := okO_iff.1 h
  obtain ⟨hok, ha, ho⟩ := radF_iff.1 h1
  have hbs := okU_bs hok
  have hw := wayF_len ha ho b
  have := (stOk_len (okU_st hok)).2
  exact (lossTo_bd (okU_bu hok) (by omega) h2 (by rw [List.length_reverse]; omega) (Nat.le_refl _)).2
theorem drpV_fed (h : okO (nb : Int) ls ts us os = true) (b : Nat) : 0 ≤ drpV ls ts us os nb b ↔ fedB (edgesOn ls ts) us b = true := by
  have := drp_nn h b
  unfold drpV; split
  · rename_i hf; simp [hf, this]
  · rename_i hf; simp [hf]
theorem drpV_lt (h : okO (nb : Int) ls ts us os = true) (b : Nat) : -1 ≤ drpV ls ts us os nb b ∧ drpV ls ts us os nb b ≤ 719280 := by
  have := drp_nn h b
  have := drp_bd h b
  unfold drpV; split <;> omega
theorem drpF_bad {bus : Int} (h : okO bs ls ts us os = false) : drpF bs ls ts us os bus = -1 := by rw [drpF, if_neg (by rw [h]; simp)]
theorem drpF_at (h : okO (nb : Int) ls ts us os = true) (hb : b < nb) : drpF nb ls ts us os (b : Int) = drpV ls ts us os nb b := by
  rw [drpF, if_pos ⟨h, by simp [inB]; omega⟩, Int.toNat_natCast, Int.toNat_natCast]
end

/-! The worst bus -/
def valAt (ds : List Int) (k : Nat) : Int := ds.getD k (-1)
theorem valAt_get {ds : List Int} {k : Nat} {z : Int} (h : ds[k]? = some z) : valAt ds k = z := by rw [valAt, List.getD_eq_getElem?_getD, h]; rfl
/-- The index of the greatest of the first k values from 0 on, the first one of several; -1 if there is none. -/
def worstTo (ds : List Int) : Nat → Int
  | 0 => -1
  | k + 1 => if 0 ≤ valAt ds k ∧ (worstTo ds k < 0 ∨ valAt ds (worstTo ds k).toNat < valAt ds k) then (k : Int) else worstTo ds k
def greatTo (ds : List Int) (k : Nat) : Int := if worstTo ds k < 0 then -1 else valAt ds (worstTo ds k).toNat
theorem worstTo_spec (ds : List Int) : ∀ k : Nat, (worstTo ds k = -1 ∧ ∀ i, i < k → valAt ds i < 0) ∨ (∃ j : Nat, worstTo ds k = (j : Int) ∧ j < k ∧ 0 ≤ valAt ds j ∧ (∀ i, i < k → valAt ds i ≤ valAt ds j) ∧ ∀ i, i < j → valAt ds i < valAt ds j)
  | 0 => .inl ⟨rfl, fun i hi => absurd hi (by omega)⟩
  | k + 1 => by
    rw [worstTo]
    rcases worstTo_spec ds k with ⟨h1, h2⟩ | ⟨j, h1, h2, h3, h4, h5⟩
    · rw [h1]
      by_cases hk : 0 ≤ valAt ds k
      · rw [if_pos ⟨hk, .inl (by omega)⟩]
        refine .inr ⟨k, rfl, by omega, hk, fun i hi => ?_, fun i hi => ?_⟩
        · by_cases e : i = k
          · subst e; exact Int.le_refl _
          · have := h2 i (by omega); omega
        · have := h2 i hi; omega
      · rw [if_neg (fun h => hk h.1)]
        refine .inl ⟨rfl, fun i hi => ?_⟩
        by_cases e : i = k
        · subst e; omega
        · exact h2 i (by omega)
    · rw [h1, Int.toNat_natCast]
      by_cases hk : valAt ds j < valAt ds k
      · rw [if_pos ⟨by omega, .inr hk⟩]
        refine .inr ⟨k, rfl, by omega, by omega, fun i hi => ?_, fun i hi => ?_⟩
        · by_cases e : i = k
          · subst e; exact Int.le_refl _
          · have := h4 i (by omega); omega
        · have := h4 i hi; omega
      · rw [if_neg (by rintro ⟨_, h | h⟩ <;> omega)]
        refine .inr ⟨j, rfl, by omega, h3, fun i hi => ?_, h5⟩
        by_cases e : i = k
        · subst e; omega
        · exact h4 i (by omega)
theorem worst_next (ds : List Int) (k : Nat) : (greatTo ds k < valAt ds k → worstTo ds (k + 1) = (k : Int) ∧ greatTo ds (k + 1) = valAt ds k) ∧ (¬ greatTo ds k < valAt ds k → worstTo ds (k + 1) = worstTo ds k ∧ greatTo ds (k + 1) = greatTo ds k) := by
  have hs := worstTo_spec ds k
  have e1 : ∀ z, worstTo ds (k + 1) = z → greatTo ds (k + 1) = if z < 0 then -1 else valAt ds z.toNat := fun z h => by rw [greatTo, h]
  constructor
  · intro h
    have e : worstTo ds (k + 1) = (k : Int) := by
      rw [worstTo, if_pos]
      rcases hs with ⟨h1, _⟩ | ⟨j, h1, _, h3, _⟩
      · rw [greatTo, h1, if_pos (by omega)] at h
        exact ⟨by omega, .inl (by omega)⟩
      · rw [greatTo, h1, if_neg (by omega), Int.toNat_natCast] at h
        rw [h1, Int.toNat_natCast]
        exact ⟨by omega, .inr h⟩
    refine ⟨e, ?_⟩
    rw [e1 _ e, if_neg (by omega), Int.toNat_natCast]
  · intro h
    have e : worstTo ds (k + 1) = worstTo ds k := by
      rw [worstTo, if_neg]
      rintro ⟨h4, h5⟩
      rcases hs with ⟨h1, _⟩ | ⟨j, h1, _, h3, _⟩
      · rw [greatTo, h1, if_pos (by omega)] at h; omega
      · rw [greatTo, h1, if_neg (by omega), Int.toNat_natCast] at h
        rw [h1, Int.toNat_natCast] at h5
        rcases h5 with h5 | h5 <;> omega
    refine ⟨e, ?_⟩
    rw [e1 _ e]; rfl
noncomputable def wrsF (bs : Int) (ls : List L3) (ts : List Bool) (us : List U2) (os : List Int) : Int := if okO bs ls ts us os = true then worstTo (drpL ls ts us os bs.toNat) bs.toNat else -1
theorem wrsF_bad {bs : Int} {ls : List L3} {ts : List Bool} {us : List U2} {os : List Int} (h : okO bs ls ts us os = false) : wrsF bs ls ts us os = -1 := by rw [wrsF, if_neg (by rw [h]; simp)]

/-! Bounds -/
/-- None of the first k values from 0 on is greater than a number. -/
def InTo (ds : List Int) (most : Int) (k : Nat) : Prop := ∀ b, b < k → 0 ≤ valAt ds b → valAt ds b ≤ most
theorem inTo_next {ds : List Int} {most : Int} {k : Nat} (h : InTo ds most k) (h2 : ¬ (0 ≤ valAt ds k ∧ most < valAt ds k)) : InTo ds most (k + 1) := by
  intro b hb h0
  by_cases e : b = k
  · subst e; exact Int.not_lt.1 fun h3 => h2 ⟨h0, h3⟩
  · exact h b (by omega) h0
theorem worst_in (ds : List Int) (most : Int) (k : Nat) : InTo ds most k ↔ (worstTo ds k < 0 ∨ valAt ds (worstTo ds k).toNat ≤ most) := by
  rcases worstTo_spec ds k with ⟨h1, h2⟩ | ⟨j, h1, h2, h3, h4, _⟩
  · rw [h1]
    exact ⟨fun _ => .inl (by omega), fun _ b hb h0 => by have := h2 b hb; omega⟩
  · rw [h1, Int.toNat_natCast]
    constructor
    · exact fun h => .inr (h j h2 h3)
    · rintro (h | h) b hb _
      · omega
      · have := h4 b hb; omega
noncomputable def dwiF (bs : Int) (ls : List L3) (ts : List Bool) (us : List U2) (os : List Int) (most : Int) : Bool := godF bs ls ts us && ohmOk ts.length os && @decide (InTo (drpL ls ts us os bs.toNat) most bs.toNat) (Classical.propDecidable _)
theorem dwiF_iff {bs : Int} {ls : List L3} {ts : List Bool} {us : List U2} {os : List Int} {most : Int} : dwiF bs ls ts us os most = true ↔ godF bs ls ts us = true ∧ ohmOk ts.length os = true ∧ InTo (drpL ls ts us os bs.toNat) most bs.toNat := by
  rw [dwiF, Bool.and_eq_true, Bool.and_eq_true, @decide_eq_true_iff _ (Classical.propDecidable _), and_assoc]
theorem dwiF_ok {bs : Int} {ls : List L3} {ts : List Bool} {us : List U2} {os : List Int} {most : Int} (h : dwiF bs ls ts us os most = true) : okO bs ls ts us os = true := by
  obtain ⟨h1, h2, _⟩ := dwiF_iff.1 h
  exact okO_iff.2 ⟨(godF_iff.1 h1).1, h2⟩
theorem dwiF_bad {bs : Int} {ls : List L3} {ts : List Bool} {us : List U2} {os : List Int} {most : Int} (h : okO bs ls ts us os = false) : dwiF bs ls ts us os most = false := by
  rw [Bool.eq_false_iff]; intro h2; rw [dwiF_ok h2] at h; cases h

/-! More load -/
/-- The same feeds, and at least as much load everywhere. -/
structure More (us us' : List U2) : Prop where
  sl : us.length = us'.length
  sf : ∀ b, fd us b = fd us' b
  nn : ∀ b, 0 ≤ ld us b
  le : ∀ b, ld us b ≤ ld us' b
section
variable {bs : Int} {ls : List L3} {ts : List Bool} {us us' : List U2} {os : List Int} {k o b j nb m : Nat} {ws : List Nat} {most : Int}
theorem gsum_mono {p : Nat → Bool} {f g : Nat → Int} (h : ∀ b, f b ≤ g b) : ∀ k : Nat, gsum p f k ≤ gsum p g k
  | 0 => by simp [gsum]
  | k + 1 => by
    have := gsum_mono (p := p) h k
    have := h k
    rw [gsum, gsum]; split <;> omega
theorem way_fd (hf : ∀ b, fd us b = fd us' b) (h : Way ls ts us b ws) : Way ls ts us' b ws := by
  induction h with
  | feed hb => exact .feed (by rw [← hf]; exact hb)
  | step _ hl hc ih =>
    obtain ⟨f, hf2, hc⟩ := hc
    exact .step ih hl ⟨f, by rw [← hf]; exact hf2, hc⟩
theorem wayF_fd (hf : ∀ b, fd us b = fd us' b) (b : Nat) : wayF ls ts us b = wayF ls ts us' b := by
  have e : (fun ws => Way ls ts us b ws) = (fun ws => Way ls ts us' b ws) := funext fun ws => propext ⟨way_fd hf, way_fd fun b => (hf b).symm⟩
  have e2 : Way ls ts us b = Way ls ts us' b := e
  unfold wayF
  rw [e2]
theorem fedB_fd {es : List E2} (hf : ∀ b, fd us b = fd us' b) (b : Nat) : fedB es us b = fedB es us' b := by
  rw [Bool.eq_iff_iff, fedB_iff, fedB_iff]
  simp only [hf]
theorem oneFeed_fd {es : List E2} (hf : ∀ b, fd us b = fd us' b) (h : OneFeed es us) : OneFeed es us' := by
  intro b c hb hc
  rw [← hf] at hb hc
  exact h b c hb hc
theorem more_buses (h : More us us') (h2 : busesOk bs ls us' = true) : busesOk bs ls us = true := by
  have h3 := h2
  simp only [busesOk, Bool.and_eq_true, decide_eq_true_eq] at h3 ⊢
  refine ⟨⟨h3.1.1, by rw [h.sl]; exact h3.1.2⟩, List.all_eq_true.2 fun u hu => ?_⟩
  obtain ⟨i, hi, e⟩ := List.getElem_of_mem hu
  have e2 : us[i]? = some u := by rw [List.getElem?_eq_getElem hi, e]
  have f1 := fd_bd h2 i
  have f2 := ld_bd h2 i
  have f3 := h.nn i
  have f4 := h.le i
  rw [← h.sf, fd_at e2] at f1
  rw [ld_at e2] at f3 f4
  simp only [busOk, inB, Bool.and_eq_true, decide_eq_true_eq]
  omega
theorem more_okU (h : More us us') (h2 : okU bs ls m us' = true) : okU bs ls m us = true := by
  rw [okU, okU_st h2, more_buses h (okU_bu h2)]; rfl
theorem more_rad (h : More us us') (h2 : radF bs ls ts us' = true) : radF bs ls ts us = true := by
  obtain ⟨a, b, c⟩ := radF_iff.1 h2
  exact radF_iff.2 ⟨more_okU h a, b, oneFeed_fd (fun b => (h.sf b).symm) c⟩
theorem more_flo (h : More us us') (nb k : Nat) : flo ls ts us nb k ≤ flo ls ts us' nb k := by
  have e : flo ls ts us nb k = gsum (wB ls ts us' k) (ld us) nb := gsum_congr fun b _ => ⟨by rw [wB, wB, wayF_fd h.sf], rfl⟩
  rw [e]
  exact gsum_mono h.le nb
theorem more_drp (h : More us us') (ho : ohmOk m os = true) (nb b : Nat) : drp ls ts us os nb b ≤ drp ls ts us' os nb b := by
  rw [drp_sum, drp_sum, wayF_fd h.sf]
  exact sum_le fun x _ => Int.mul_le_mul_of_nonneg_right (more_flo h nb x) (ohmAt_bd ho x).1
theorem more_val (h : More us us') (ho : ohmOk m os = true) (nb b : Nat) : drpV ls ts us os nb b ≤ drpV ls ts us' os nb b := by
  have := more_drp h (ls := ls) (ts := ts) ho nb b
  rw [drpV, drpV, fedB_fd h.sf]
  split <;> omega
theorem more_god (h : More us us') (h2 : godF (nb : Int) ls ts us' = true) : godF (nb : Int) ls ts us = true := by
  obtain ⟨a, b, c⟩ := godF_iff.1 h2
  have a' := more_rad h a
  refine godF_iff.2 ⟨a', ?_, fun b hb hf => ?_⟩
  · rcases Nat.eq_zero_or_pos (ovlF (nb : Int) ls ts us).length with h0 | h0
    · exact h0
    · obtain ⟨z, hz⟩ := List.exists_mem_of_length_pos h0
      obtain ⟨k, rfl, hk, h4⟩ := (mem_ovl a').1 hz
      have := List.length_pos_of_mem ((mem_ovl a).2 ⟨k, rfl, hk, Int.lt_of_lt_of_le h4 (more_flo h nb k)⟩)
      omega
  · have h3 := c b hb (by rw [← h.sf]; exact hf)
    rw [← h.sf] at h3
    exact Int.le_trans (gsum_mono h.le _) h3
theorem more_within (h : More us us') (h2 : dwiF (nb : Int) ls ts us' os most = true) : dwiF (nb : Int) ls ts us os most = true := by
  obtain ⟨a, b, c⟩ := dwiF_iff.1 h2
  refine dwiF_iff.2 ⟨more_god h a, b, fun d hd h0 => ?_⟩
  rw [Int.toNat_natCast] at hd h0 ⊢
  rw [Int.toNat_natCast] at c
  have hv := more_val h (ls := ls) (ts := ts) b nb d
  have h1 := c d hd
  rw [valAt_get (drpL_get hd)] at h0 h1 ⊢
  have := h1 (by omega)
  omega
/-- Bus b has r more load. -/
def moreU (us : List U2) (b : Nat) (r : Int) : List U2 := us.set b (fd us b, ld us b + r)
theorem moreU_len (r : Int) : (moreU us b r).length = us.length := by simp [moreU]
theorem moreU_at (hb : b < us.length) (r : Int) : (moreU us b r)[b]? = some (fd us b, ld us b + r) := by rw [moreU, List.getElem?_set_self hb]
theorem moreU_fd (hb : b < us.length) (r : Int) (c : Nat) : fd (moreU us b r) c = fd us c := by
  by_cases e : b = c
  · subst e; rw [fd_at (moreU_at hb r)]
  · rw [fd, fd, moreU, List.getD_eq_getElem?_getD, List.getD_eq_getElem?_getD, List.getElem?_set_ne e]
theorem moreU_ld (hb : b < us.length) (r : Int) (c : Nat) : ld (moreU us b r) c = if b = c then ld us c + r else ld us c := by
  by_cases e : b = c
  · subst e; rw [ld_at (moreU_at hb r), if_pos rfl]
  · rw [if_neg e, ld, ld, moreU, List.getD_eq_getElem?_getD, List.getD_eq_getElem?_getD, List.getElem?_set_ne e]
theorem moreU_zero (hb : b < us.length) : moreU us b 0 = us := by
  have e : us[b]? = some us[b] := List.getElem?_eq_getElem hb
  rw [moreU, fd_at e, ld_at e, Int.add_zero]
  exact List.set_getElem_self hb
theorem moreU_more (hb : b < us.length) (r s : Int) : moreU (moreU us b r) b s = moreU us b (r + s) := by
  rw [moreU, moreU_fd hb, moreU_ld hb, if_pos rfl, moreU, List.set_set, moreU, Int.add_assoc]
theorem more_of {ls' : List L3} (hu : busesOk bs ls' us = true) (hb : b < us.length) {r s : Int} (h0 : 0 ≤ r) (h1 : r ≤ s) : More (moreU us b r) (moreU us b s) := by
  refine ⟨by rw [moreU_len, moreU_len], fun c => by rw [moreU_fd hb, moreU_fd hb], fun c => ?_, fun c => ?_⟩
  · have := (ld_bd hu c).1
    rw [moreU_ld hb]; split <;> omega
  · rw [moreU_ld hb, moreU_ld hb]; split <;> omega
theorem more_us {ls' : List L3} (hu : busesOk bs ls' us = true) (hb : b < us.length) {s : Int} (h1 : 0 ≤ s) : More us (moreU us b s) := by
  have := more_of hu hb (Int.le_refl 0) h1
  rwa [moreU_zero hb] at this
theorem moreU_buses (hu : busesOk bs ls us = true) (_hb : b < us.length) {r : Int} (h0 : 0 ≤ r) (h1 : ld us b + r ≤ 999) : busesOk bs ls (moreU us b r) = true := by
  have h3 := hu
  simp only [busesOk, Bool.and_eq_true, decide_eq_true_eq] at h3 ⊢
  refine ⟨⟨h3.1.1, by rw [moreU_len]; exact h3.1.2⟩, List.all_eq_true.2 fun u hm => ?_⟩
  rw [moreU] at hm
  rcases List.mem_or_eq_of_mem_set hm with hm | rfl
  · exact List.all_eq_true.1 h3.2 u hm
  · have := fd_bd hu b
    have := ld_bd hu b
    simp only [busOk, inB, Bool.and_eq_true, decide_eq_true_eq]
    omega
theorem moreU_rad (h : radF bs ls ts us = true) (hb : b < us.length) {r : Int} (h0 : 0 ≤ r) (h1 : ld us b + r ≤ 999) : radF bs ls ts (moreU us b r) = true := by
  obtain ⟨a, c, d⟩ := radF_iff.1 h
  refine radF_iff.2 ⟨?_, c, oneFeed_fd (fun x => (moreU_fd hb r x).symm) d⟩
  rw [okU, okU_st a, moreU_buses (okU_bu a) hb h0 h1]; rfl

/-! The room -/
noncomputable def roomB (bs : Int) (ls : List L3) (ts : List Bool) (us : List U2) (os : List Int) (most : Int) (b r : Nat) : Bool := dwiF bs ls ts (moreU us b ((r : Int) + 1)) os most
noncomputable def roomN (bs : Int) (ls : List L3) (ts : List Bool) (us : List U2) (os : List Int) (most : Int) (b : Nat) : Nat := (List.range (999 - ld us b).toNat).countP (roomB bs ls ts us os most b)
noncomputable def rooF (bs : Int) (ls : List L3) (ts : List Bool) (us : List U2) (os : List Int) (most bus : Int) : Int := if dwiF bs ls ts us os most = true ∧ inB bus 0 (bs - 1) = true ∧ fedB (edgesOn ls ts) us bus.toNat = true then (roomN bs ls ts us os most bus.toNat : Int) else -1
theorem countP_edge {q : Nat → Bool} : ∀ {N r : Nat}, r ≤ N → (∀ j, j < r → q j = true) → (∀ j, r ≤ j → j < N → q j = false) → (List.range N).countP q = r
  | 0, r, h, _, _ => by obtain rfl : r = 0 := by omega
                        rfl
  | N + 1, r, h, h1, h2 => by
    rw [List.range_succ, List.countP_append]
    by_cases e : r = N + 1
    · subst e
      rw [countP_edge (r := N) (Nat.le_refl _) (fun j hj => h1 j (by omega)) (fun j a b => by omega)]
      simp [h1 N (by omega)]
    · rw [countP_edge (r := r) (by omega) h1 (fun j a b => h2 j a (by omega))]
      simp [h2 N (by omega) (by omega)]
theorem roomB_mono {ls' : List L3} (hu : busesOk (nb : Int) ls' us = true) (hb : b < us.length) {i j : Nat} (hij : i ≤ j) (h : roomB nb ls ts us os most b j = true) : roomB nb ls ts us os most b i = true := by
  unfold roomB at h ⊢
  exact more_within (more_of hu hb (by omega) (by omega)) h
/-- The room is where the bounds end. -/
theorem roomN_at {ls' : List L3} {r : Nat} (hu : busesOk (nb : Int) ls' us = true) (hb : b < us.length) (hr : r ≤ (999 - ld us b).toNat) (h1 : ∀ j, j < r → roomB nb ls ts us os most b j = true) (h2 : r < (999 - ld us b).toNat → roomB nb ls ts us os most b r = false) : roomN nb ls ts us os most b = r := by
  refine countP_edge hr h1 fun j hj hjn => ?_
  rw [Bool.eq_false_iff]; intro h
  rw [roomB_mono hu hb hj h] at h2
  exact absurd (h2 (by omega)) (by simp)
theorem roomN_spec {ls' : List L3} (hu : busesOk (nb : Int) ls' us = true) (hb : b < us.length) : roomN nb ls ts us os most b ≤ (999 - ld us b).toNat ∧ (∀ j, j < roomN nb ls ts us os most b → roomB nb ls ts us os most b j = true) ∧ (roomN nb ls ts us os most b < (999 - ld us b).toNat → roomB nb ls ts us os most b (roomN nb ls ts us os most b) = false) := by
  have key : ∀ N, ∃ r, r ≤ N ∧ (∀ j, j < r → roomB nb ls ts us os most b j = true) ∧ (r < N → roomB nb ls ts us os most b r = false) := by
    intro N
    induction N with
    | zero => exact ⟨0, Nat.le_refl _, fun j hj => absurd hj (by omega), fun h => absurd h (by omega)⟩
    | succ N ih =>
      obtain ⟨r, h1, h2, h3⟩ := ih
      by_cases e : r < N
      · exact ⟨r, by omega, h2, fun _ => h3 e⟩
      · obtain rfl : r = N := by omega
        cases hq : roomB nb ls ts us os most b r
        · exact ⟨r, by omega, h2, fun _ => hq⟩
        · refine ⟨r + 1, Nat.le_refl _, fun j hj => ?_, fun h => absurd h (by omega)⟩
          by_cases e : j = r
          · subst e; exact hq
          · exact h2 j (by omega)
  obtain ⟨r, h1, h2, h3⟩ := key (999 - ld us b).toNat
  rw [roomN_at hu hb h1 h2 h3]
  exact ⟨h1, h2, h3⟩
end
end Go.Proofs.YtpmkeagdoehbhaaDoor
