/- Plain facts that the promises of chapter 8 ask for. -/
import Derived.Test.YtpmkeagdoehbhaaDoorX0
namespace Go.Proofs.YtpmkeagdoehbhaaDoor
open Go.RowKit

section
variable {bs : Int} {ls : List L3} {ts : List Bool} {us : List U2} {os : List Int} {most bus : Int} {k o b j nb m : Nat} {ws : List Nat}
theorem drpF_neg (h : drpF bs ls ts us os bus < 0) : drpF bs ls ts us os bus = -1 := by
  by_cases hc : okO bs ls ts us os = true ∧ inB bus 0 (bs - 1) = true
  · have hbs := okU_bs (radF_iff.1 (okO_iff.1 hc.1).1).1
    obtain ⟨n, rfl⟩ := Int.eq_ofNat_of_zero_le (show 0 ≤ bs by omega)
    have h5 := hc.2
    simp only [inB, Bool.and_eq_true, decide_eq_true_eq] at h5
    obtain ⟨c, rfl⟩ := Int.eq_ofNat_of_zero_le h5.1
    rw [drpF_at hc.1 (by omega)] at h ⊢
    have := drpV_lt hc.1 c
    omega
  · rw [drpF, if_neg hc]
theorem drpF_ge : -1 ≤ drpF bs ls ts us os bus := by
  rcases Int.lt_or_le (drpF bs ls ts us os bus) 0 with h | h
  · rw [drpF_neg h]; exact Int.le_refl _
  · omega
/-- A bus that has a drop: all is valid, and it is fed. -/
theorem drpF_pos (h : 0 ≤ drpF bs ls ts us os bus) : ∃ c n : Nat, bus = (c : Int) ∧ bs = (n : Int) ∧ c < n ∧ n ≤ 8 ∧ okO (n : Int) ls ts us os = true ∧ us.length = n ∧ fedB (edgesOn ls ts) us c = true ∧ drpF bs ls ts us os bus = drp ls ts us os n c := by
  have h0 := h
  rw [drpF] at h
  split at h
  · rename_i hc
    have hbs := okU_bs (radF_iff.1 (okO_iff.1 hc.1).1).1
    obtain ⟨n, rfl⟩ := Int.eq_ofNat_of_zero_le (show 0 ≤ bs by omega)
    have h5 := hc.2
    simp only [inB, Bool.and_eq_true, decide_eq_true_eq] at h5
    obtain ⟨c, rfl⟩ := Int.eq_ofNat_of_zero_le h5.1
    have hul : us.length = n := by have := busesOk_len (okU_bu (radF_iff.1 (okO_iff.1 hc.1).1).1); omega
    rw [Int.toNat_natCast, Int.toNat_natCast] at h
    have hf := (drpV_fed hc.1 c).1 (by omega)
    exact ⟨c, n, rfl, rfl, by omega, by omega, hc.1, hul, hf, by rw [drpF_at hc.1 (by omega), drpV, if_pos hf]⟩
  · omega
theorem okO_inc (h : okO bs ls ts us os = true) (hb : b < us.length) {r : Int} (h0 : 0 ≤ r) (h1 : ld us b + r ≤ 999) : okO bs ls ts (moreU us b r) os = true :=
  okO_iff.2 ⟨moreU_rad (okO_iff.1 h).1 hb h0 h1, (okO_iff.1 h).2⟩

/-! P7: more load never makes a drop less -/
theorem drop_inc (h : 0 ≤ drpF bs ls ts us os bus) (hk : k < us.length) (hl : ld us k < 999) : drpF bs ls ts us os bus ≤ drpF bs ls ts (moreU us k 1) os bus := by
  obtain ⟨c, n, rfl, rfl, hc, _, hok, _, _, _⟩ := drpF_pos h
  have hbu := okU_bu (radF_iff.1 (okO_iff.1 hok).1).1
  rw [drpF_at hok hc, drpF_at (okO_inc hok hk (by omega) (by omega)) hc]
  exact more_val (more_us hbu hk (by omega)) (okO_iff.1 hok).2 n c
theorem drop_feed (h : 0 ≤ drpF bs ls ts us os bus) (hp : plnF bs ls ts us bus < 0) : drpF bs ls ts us os bus = 0 := by
  obtain ⟨c, n, rfl, rfl, hc, _, hok, _, _, hd⟩ := drpF_pos h
  rw [plnF, if_pos ⟨(okO_iff.1 hok).1, by simp [inB]; omega⟩, Int.toNat_natCast] at hp
  rw [hd]
  cases hw : wayF ls ts us c with
  | nil => exact drp_nil hw
  | cons p ps => rw [hw] at hp; simp only [hd1] at hp; omega
theorem drop_way (h : 0 ≤ drpF bs ls ts us os bus) (hp : ¬ plnF bs ls ts us bus < 0) : drpF bs ls ts us os (otherF bs ls (plnF bs ls ts us bus) bus) ≤ drpF bs ls ts us os bus := by
  obtain ⟨c, n, rfl, rfl, hc, hn8, hok, _, _, hd⟩ := drpF_pos h
  obtain ⟨hrad, hoh⟩ := okO_iff.1 hok
  obtain ⟨hk, ha, ho⟩ := radF_iff.1 hrad
  have e : plnF (n : Int) ls ts us (c : Int) = hd1 (wayF ls ts us c) := by rw [plnF, if_pos ⟨hrad, by simp [inB]; omega⟩, Int.toNat_natCast]
  rw [e] at hp ⊢
  rw [hd]
  cases hw : wayF ls ts us c with
  | nil => rw [hw] at hp; simp [hd1] at hp
  | cons p ps =>
    obtain ⟨o, hl, hwo, hwf⟩ := wayF_cons ha ho hw
    have hon := hl.symm.lt (stOk_net (okU_st hk))
    have hon2 := hl.lt (stOk_net (okU_st hk))
    simp only [hd1]
    rw [other_ln (okU_st hk) hl, drpF_at hok (by omega), drpV, if_pos (fedB_iff.2 hwo.fed), drp_cons hw hwf]
    have := (lossF_bd (ls := ls) (ts := ts) (okU_bu hk) hn8 hoh p).1
    omega

/-! P87: no bus is worse than the worst one -/
theorem wrs_neg (h : wrsF bs ls ts us os < 0) : wrsF bs ls ts us os = -1 := by
  rw [wrsF] at h ⊢
  split
  · rename_i hc
    rw [if_pos hc] at h
    rcases worstTo_spec (drpL ls ts us os bs.toNat) bs.toNat with ⟨h1, _⟩ | ⟨j, h1, _⟩
    · exact h1
    · omega
  · rfl
theorem wrs_pos (h : ¬ wrsF bs ls ts us os < 0) : ∃ j n : Nat, bs = (n : Int) ∧ wrsF bs ls ts us os = (j : Int) ∧ j < n ∧ n ≤ 8 ∧ okO (n : Int) ls ts us os = true ∧ 0 ≤ drpF n ls ts us os (j : Int) ∧ (∀ c : Nat, c < n → drpF n ls ts us os (c : Int) ≤ drpF n ls ts us os (j : Int)) ∧ ∀ c : Nat, c < j → drpF n ls ts us os (c : Int) < drpF n ls ts us os (j : Int) := by
  rw [wrsF] at h
  split at h
  · rename_i hc
    have hbs := okU_bs (radF_iff.1 (okO_iff.1 hc).1).1
    obtain ⟨n, rfl⟩ := Int.eq_ofNat_of_zero_le (show 0 ≤ bs by omega)
    rw [Int.toNat_natCast] at h
    have hv : ∀ c, c < n → valAt (drpL ls ts us os n) c = drpF n ls ts us os (c : Int) := fun c hcn => by rw [valAt_get (drpL_get hcn), drpF_at hc hcn]
    rcases worstTo_spec (drpL ls ts us os n) n with ⟨h1, _⟩ | ⟨j, h1, h2, h3, h4, h5⟩
    · omega
    · refine ⟨j, n, rfl, by rw [wrsF, if_pos hc, Int.toNat_natCast, h1], h2, by omega, hc, by rw [← hv j h2]; exact h3, fun c hcn => ?_, fun c hcj => ?_⟩
      · rw [← hv j h2, ← hv c hcn]; exact h4 c hcn
      · rw [← hv j h2, ← hv c (by omega)]; exact h5 c hcj
  · omega

/-! P88: bounds may be wider, and lines fewer -/
theorem fedB_off (j b : Nat) (h : fedB (edgesOn ls (ts.set j false)) us b = true) : fedB (edgesOn ls ts) us b = true := by
  obtain ⟨f, hf, hc⟩ := fedB_iff.1 h
  exact fedB_iff.2 ⟨f, hf, CW.conn (k := j) hc⟩
theorem drp_off (h : okO (nb : Int) ls ts us os = true) (j b : Nat) (hf : fedB (edgesOn ls (ts.set j false)) us b = true) : drp ls (ts.set j false) us os nb b ≤ drp ls ts us os nb b := by
  obtain ⟨hrad, hoh⟩ := okO_iff.1 h
  obtain ⟨_, ha, ho⟩ := radF_iff.1 hrad
  obtain ⟨_, ha2, ho2⟩ := radF_iff.1 (radF_off hrad j)
  have hw := way_off (wayF_is ha2 ho2 (fedB_iff.1 hf))
  rw [drp_sum, drp_sum, wayF_of ha ho hw]
  exact sum_le fun x _ => Int.mul_le_mul_of_nonneg_right (flo_off hrad j x) (ohmAt_bd hoh x).1
theorem dwi_off (h : dwiF (nb : Int) ls ts us os most = true) (j : Nat) : dwiF (nb : Int) ls (ts.set j false) us os most = true := by
  have hok := dwiF_ok h
  obtain ⟨h1, h2, h3⟩ := dwiF_iff.1 h
  refine dwiF_iff.2 ⟨god_off h1 j, by rw [List.length_set]; exact h2, fun b hb h0 => ?_⟩
  rw [Int.toNat_natCast] at h3 hb h0 ⊢
  have hok2 : okO (nb : Int) ls (ts.set j false) us os = true := okO_iff.2 ⟨radF_off (okO_iff.1 hok).1 j, by rw [List.length_set]; exact h2⟩
  rw [valAt_get (drpL_get hb)] at h0 ⊢
  have hf := (drpV_fed hok2 b).1 h0
  have hf1 := fedB_off j b hf
  have h4 := h3 b hb
  rw [valAt_get (drpL_get hb), drpV, if_pos hf1] at h4
  have := h4 (drp_nn hok b)
  have := drp_off hok j b hf
  rw [drpV, if_pos hf]
  omega
theorem dwi_wide (h : dwiF bs ls ts us os most = true) : dwiF bs ls ts us os (most + 1) = true := by
  obtain ⟨h1, h2, h3⟩ := dwiF_iff.1 h
  exact dwiF_iff.2 ⟨h1, h2, fun b hb h0 => by have := h3 b hb h0; omega⟩

/-! P89: room is all that there is -/
theorem roo_min (h : rooF bs ls ts us os most bus < 0) : rooF bs ls ts us os most bus = -1 := by
  rw [rooF] at h ⊢
  split at h
  · omega
  · rename_i hc; rw [if_neg hc]
theorem roo_pos (h : ¬ rooF bs ls ts us os most bus < 0) : ∃ c n x : Nat, bus = (c : Int) ∧ bs = (n : Int) ∧ c < n ∧ n ≤ 8 ∧ us.length = n ∧ busesOk (n : Int) ls us = true ∧ rooF bs ls ts us os most bus = (x : Int) ∧ ld us c + (x : Int) ≤ 999 ∧ dwiF (n : Int) ls ts (moreU us c (x : Int)) os most = true ∧ (ld us c + (x : Int) < 999 → dwiF (n : Int) ls ts (moreU us c ((x : Int) + 1)) os most = false) := by
  have h0 := h
  rw [rooF] at h
  split at h
  · rename_i hc
    obtain ⟨hd, hin, hf⟩ := hc
    have hok := dwiF_ok hd
    have hbu := okU_bu (radF_iff.1 (okO_iff.1 hok).1).1
    have hbs := okU_bs (radF_iff.1 (okO_iff.1 hok).1).1
    obtain ⟨n, rfl⟩ := Int.eq_ofNat_of_zero_le (show 0 ≤ bs by omega)
    have h5 := hin
    simp only [inB, Bool.and_eq_true, decide_eq_true_eq] at h5
    obtain ⟨c, rfl⟩ := Int.eq_ofNat_of_zero_le h5.1
    have hul : us.length = n := by have := busesOk_len hbu; omega
    obtain ⟨s1, s2, s3⟩ := roomN_spec (ts := ts) (os := os) (most := most) hbu (show c < us.length by omega)
    have hld := ld_bd hbu c
    refine ⟨c, n, roomN n ls ts us os most c, rfl, rfl, by omega, by omega, hul, hbu, by rw [rooF, if_pos ⟨hd, hin, hf⟩, Int.toNat_natCast], by omega, ?_, fun hlt => s3 (by omega)⟩
    rcases Nat.eq_zero_or_pos (roomN n ls ts us os most c) with e | e
    · rw [e]
      have := moreU_zero (us := us) (show c < us.length by omega)
      rw [Int.natCast_zero, this]; exact hd
    · have := s2 (roomN n ls ts us os most c - 1) (by omega)
      unfold roomB at this
      rwa [show (((roomN n ls ts us os most c - 1 : Nat) : Int) + 1) = (roomN n ls ts us os most c : Int) by omega] at this
  · omega
end
end Go.Proofs.YtpmkeagdoehbhaaDoor
