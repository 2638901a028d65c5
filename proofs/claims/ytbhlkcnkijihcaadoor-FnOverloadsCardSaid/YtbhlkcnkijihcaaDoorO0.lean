/- Plain facts that the promises of chapter 7 ask for. -/
import Derived.Test.YtbhlkcnkijihcaaDoorBZA
namespace Go.Proofs.YtbhlkcnkijihcaaDoor
open Go.RowKit

section
variable {bs : Int} {ls : List L3} {ts : List Bool} {us : List U2} {k o b j u v nb m : Nat} {ws : List Nat}
/-! P5: what comes in goes out -/
/-- What a line at a bus carries on. -/
noncomputable def flQ (ls : List L3) (ts : List Bool) (us : List U2) (nb b k : Nat) : Int := if ts[k]? = some true ∧ (k : Int) ≠ hd1 (wayF ls ts us b) then flo ls ts us nb k else 0
def latB (ls : List L3) (b : Nat) : List Nat := (List.range ls.length).filter fun j => endsB (ls.getD j (0, 0, 0)) (b : Int)
theorem outs_at (hs : stOk bs ls ts.length = true) (hk : k < ls.length) : outB ls ts us b k = (endsB (ls.getD k (0, 0, 0)) (b : Int) && decide (ts[k]? = some true ∧ (k : Int) ≠ hd1 (wayF ls ts us b))) := by
  have e : ls[k]? = some (ls.getD k (0, 0, 0)) := by rw [List.getD_eq_getElem?_getD, List.getElem?_eq_getElem hk]; rfl
  generalize ls.getD k (0, 0, 0) = l at e
  obtain ⟨a0, _, b0, _⟩ := line_in hs e
  rw [Bool.eq_iff_iff, Bool.and_eq_true, outB_iff, decide_eq_true_eq]
  simp only [endsB, Bool.or_eq_true, beq_iff_eq]
  constructor
  · rintro ⟨⟨v, l', h1, h2, h3⟩, h4⟩
    rw [e] at h1; injection h1 with h1; subst h1
    exact ⟨by omega, h2, h4⟩
  · rintro ⟨h1, h2, h3⟩
    refine ⟨?_, h3⟩
    rcases h1 with h1 | h1
    · exact ⟨l.2.1.toNat, l, e, h2, .inl ⟨by omega, rfl⟩⟩
    · exact ⟨l.1.toNat, l, e, h2, .inr ⟨by omega, rfl⟩⟩
theorem lat_sum (hs : stOk bs ls ts.length = true) : lsum (flQ ls ts us nb b) (latB ls b) (latB ls b).length = gsum (outB ls ts us b) (flo ls ts us nb) ls.length := by
  rw [lsum_all, latB, filter_gsum]
  have := gsum_if (fun j => endsB (ls.getD j (0, 0, 0)) (b : Int)) (fun k => decide (ts[k]? = some true ∧ (k : Int) ≠ hd1 (wayF ls ts us b))) (flo ls ts us nb) ls.length
  have e : gsum (fun j => endsB (ls.getD j (0, 0, 0)) (b : Int)) (flQ ls ts us nb b) ls.length = gsum (fun j => endsB (ls.getD j (0, 0, 0)) (b : Int)) (fun k => if decide (ts[k]? = some true ∧ (k : Int) ≠ hd1 (wayF ls ts us b)) = true then flo ls ts us nb k else 0) ls.length :=
    gsum_congr fun k _ => ⟨rfl, by simp only [flQ, decide_eq_true_eq]⟩
  rw [e, this]
  exact gsum_congr fun k hk => ⟨(outs_at hs hk).symm, rfl⟩
theorem flQ_bd {ls' : List L3} (hb : busesOk bs ls' us = true) (hn : nb ≤ 8) (k : Nat) : 0 ≤ flQ ls ts us nb b k ∧ flQ ls ts us nb b k ≤ 7992 := by
  have := flo_bd (ls := ls) (ts := ts) hb hn k
  unfold flQ; split <;> omega
/-- What a bus wants, and what its lines carry on. -/
noncomputable def wantF (ls : List L3) (ts : List Bool) (us : List U2) (nb b : Nat) : Int := ld us b + lsum (flQ ls ts us nb b) (latB ls b) (latB ls b).length
theorem want_in (h : radF (nb : Int) ls ts us = true) (hb : b < nb) (hf : ∃ f, 0 < fd us f ∧ Conn (edgesOn ls ts) f b) : inF ls ts us nb b = wantF ls ts us nb b := by
  obtain ⟨h1, ha, ho⟩ := radF_iff.1 h
  have hs := okU_st h1
  have hl := stOk_len hs
  rw [wantF, lat_sum hs]
  exact kirch ha ho (wayF_is ha ho hf) hb (by omega)
/-- P5, as the law asks it: of a bus that is not fed nothing; a feed gives what it wants; the line of any other bus carries it. -/
theorem flow_law (h : radF (nb : Int) ls ts us = true) (hb : b < nb) :
    fbyF nb ls ts us b = -1 ∨ (fbyF nb ls ts us b = (b : Int) ∧ fflF nb ls ts us b = wantF ls ts us nb b) ∨ (fbyF nb ls ts us b ≠ -1 ∧ fbyF nb ls ts us b ≠ (b : Int) ∧ lflF nb ls ts us (plnF nb ls ts us b) = wantF ls ts us nb b) := by
  obtain ⟨h1, ha, ho⟩ := radF_iff.1 h
  have hin : inB (b : Int) 0 ((nb : Int) - 1) = true := by simp [inB]; omega
  by_cases hx : fbyF nb ls ts us b < 0
  · exact .inl (fby_un hx).1
  · obtain ⟨f, c, e, hc, he, hr, hfl, hul, hf, hcf⟩ := fby_feed hx
    obtain rfl : b = c := by omega
    have hfed : ∃ f, 0 < fd us f ∧ Conn (edgesOn ls ts) f b := ⟨f, hf, hcf⟩
    have hw := wayF_is ha ho hfed
    have hi := want_in h hb hfed
    cases hwb : wayF ls ts us b with
    | nil =>
      rw [hwb] at hw
      cases hw with
      | feed hfb =>
        refine .inr (.inl ⟨by rw [fby_of h (by omega) hfb (Conn.refl _)], ?_⟩)
        rw [← hi, inF_feed hwb, fflF, if_pos ⟨h, hin⟩, Int.toNat_natCast, Int.toNat_natCast, givF, if_pos hfb]
    | cons p ps =>
      have hnf : ¬ 0 < fd us b := fun hfb => by
        have := wayF_of ha ho (.feed hfb)
        rw [hwb] at this; cases this
      refine .inr (.inr ⟨by omega, fun e2 => ?_, ?_⟩)
      · rw [he] at e2
        obtain rfl : f = b := by omega
        exact hnf hf
      · have hpl : plnF nb ls ts us b = (p : Int) := by rw [plnF, if_pos ⟨h, hin⟩, Int.toNat_natCast, hwb]; rfl
        have hpm := (wayF_on (j := p) (b := b) (by rw [hwb]; simp) ha ho).1
        rw [hpl, ← hi, inF_line hwb, lflF, if_pos ⟨h, by simp [inB]; omega⟩, Int.toNat_natCast, Int.toNat_natCast]
theorem lfl_at (h : radF (nb : Int) ls ts us = true) (hk : k < ts.length) : lflF nb ls ts us (k : Int) = flo ls ts us nb k := by
  rw [lflF, if_pos ⟨h, by simp [inB]; omega⟩, Int.toNat_natCast, Int.toNat_natCast]
theorem ffl_at (h : radF (nb : Int) ls ts us = true) (hb : b < nb) : fflF nb ls ts us (b : Int) = givF ls ts us nb b := by
  rw [fflF, if_pos ⟨h, by simp [inB]; omega⟩, Int.toNat_natCast, Int.toNat_natCast]
theorem lfl_bad {line : Int} (h : radF bs ls ts us = false) : lflF bs ls ts us line = -1 := by rw [lflF, if_neg (by rw [h]; simp)]
theorem ffl_bad {bus : Int} (h : radF bs ls ts us = false) : fflF bs ls ts us bus = -1 := by rw [fflF, if_neg (by rw [h]; simp)]
theorem ovl_bad (h : radF bs ls ts us = false) : ovlF bs ls ts us = [] := by rw [ovlF, if_neg (by rw [h]; simp)]
theorem lfl_nn {line : Int} (h : radF bs ls ts us = true) (h0 : 0 ≤ line) (h1 : line < ts.length) : 0 ≤ lflF bs ls ts us line := by
  have hb := okU_bu (radF_iff.1 h).1
  have hbs := okU_bs (radF_iff.1 h).1
  rw [lflF, if_pos ⟨h, by simp [inB]; omega⟩]
  exact (flo_bd hb (by omega) _).1

/-! P85: feeds give what is wanted where there is life -/
noncomputable def fedC (ls : List L3) (ts : List Bool) (us : List U2) (d : Nat) : Bool := fedB (edgesOn ls ts) us d
theorem give_all (h : radF (nb : Int) ls ts us = true) : gsum (fun _ => true) (givF ls ts us nb) nb = gsum (fedB (edgesOn ls ts) us) (ld us) nb := by
  obtain ⟨h1, ha, ho⟩ := radF_iff.1 h
  have hul : us.length = nb := by have := busesOk_len (okU_bu h1); omega
  have e := gsum_if (fun _ => true) (fun f => decide (0 < fd us f)) (fun f => gsum (connB (edgesOn ls ts) f) (ld us) nb) nb
  have e2 : gsum (fun _ => true) (givF ls ts us nb) nb = gsum (fun _ => true) (fun b => if decide (0 < fd us b) = true then gsum (connB (edgesOn ls ts) b) (ld us) nb else 0) nb :=
    gsum_congr fun b _ => ⟨rfl, by simp only [givF, isum, decide_eq_true_eq]⟩
  rw [e2, e]
  refine gsum_swap (fun d hd => ?_) (fun d hd k hk => ?_) nb
  · obtain ⟨f, hf, hc⟩ := fedB_iff.1 hd
    refine ⟨f, by have := fd_lt hf; omega, by simpa using hf, connB_iff.2 hc, fun j hj hjd => ?_⟩
    exact ho j f (by simpa using hj) hf ((connB_iff.1 hjd).trans hc.symm)
  · rw [Bool.eq_false_iff]
    intro hkd
    rw [fedB_iff.2 ⟨k, by simpa using hk, connB_iff.1 hkd⟩] at hd
    cases hd
theorem alive_fed (h : okU (nb : Int) ls ts.length us = true) (hb : b < nb) : decide ((b : Int) ∈ aliF nb ls ts us) = fedB (edgesOn ls ts) us b := by
  rw [Bool.eq_iff_iff, decide_eq_true_eq, fedB_iff]
  exact alive_iff h hb
/-- What has come together when k buses are looked at. -/
noncomputable def diffF (ls : List L3) (ts : List Bool) (us : List U2) (nb k : Nat) : Int := gsum (fun _ => true) (givF ls ts us nb) k - gsum (fedB (edgesOn ls ts) us) (ld us) k
theorem diff_end (h : radF (nb : Int) ls ts us = true) : diffF ls ts us nb nb = 0 := by rw [diffF, give_all h]; omega
theorem givF_bd {ls' : List L3} (hb : busesOk bs ls' us = true) (hn : nb ≤ 8) (k : Nat) : 0 ≤ givF ls ts us nb k ∧ givF ls ts us nb k ≤ 7992 := by
  have := isum_bd (es := edgesOn ls ts) (nb := nb) (f := ld us) (b := k) hn (ld_bd hb)
  unfold givF; split <;> omega
theorem diff_bd {ls' : List L3} (hb : busesOk bs ls' us = true) (hn : nb ≤ 8) {k : Nat} (hk : k ≤ 8) : -100000 ≤ diffF ls ts us nb k ∧ diffF ls ts us nb k ≤ 100000 := by
  have h1 := gsum_bd (p := fun _ => true) (f := givF ls ts us nb) (M := 7992) (k := k) (fun c _ => givF_bd hb hn c)
  have h2 := gsum_bd (p := fedB (edgesOn ls ts) us) (f := ld us) (M := 999) (k := k) (fun c _ => ld_bd hb c)
  unfold diffF; omega
theorem diff_next (k : Nat) : diffF ls ts us nb (k + 1) = diffF ls ts us nb k + givF ls ts us nb k - (if fedB (edgesOn ls ts) us k = true then ld us k else 0) := by
  unfold diffF
  rw [gsum_yes rfl, gsum]
  omega

/-! With a line off -/
theorem way_off (h : Way ls (ts.set j false) us b ws) : Way ls ts us b ws := by
  induction h with
  | feed hb => exact .feed hb
  | step _ hl hc ih =>
    obtain ⟨f, hf, hc⟩ := hc
    refine .step ih (ln_off hl).1 ⟨f, hf, ?_⟩
    refine Conn.mono hc fun x y hxy => ?_
    obtain ⟨i, hi, hl2⟩ := adj_cw.1 hxy
    exact adj_cw.2 ⟨i, hi, (ln_off hl2).1⟩
theorem flo_off (h : radF (nb : Int) ls ts us = true) (j k : Nat) : flo ls (ts.set j false) us nb k ≤ flo ls ts us nb k := by
  obtain ⟨h1, ha, ho⟩ := radF_iff.1 h
  obtain ⟨_, ha2, ho2⟩ := radF_iff.1 (radF_off h j)
  refine gsum_le (fun b _ => (ld_bd (okU_bu h1) b).1) (fun b _ hb => ?_)
  rw [wB, decide_eq_true_eq] at hb ⊢
  rw [wayF_of ha ho (way_off (wayF_fed ha2 ho2 hb))]
  exact hb
theorem mem_ovl (h : radF (nb : Int) ls ts us = true) {z : Int} : z ∈ ovlF nb ls ts us ↔ ∃ k : Nat, z = (k : Int) ∧ k < ts.length ∧ mostOf ls k < flo ls ts us nb k := by
  rw [ovlF, if_pos h, ofN_mem]
  constructor
  · rintro ⟨k, hk, rfl⟩
    rw [ovTo, List.mem_filter, List.mem_range] at hk
    exact ⟨k, rfl, hk.1, by simpa [ovB] using hk.2⟩
  · rintro ⟨k, rfl, h1, h2⟩
    exact ⟨k, by rw [ovTo, List.mem_filter, List.mem_range]; exact ⟨h1, by simpa [ovB] using h2⟩, rfl⟩
theorem ovl_has (h : radF (nb : Int) ls ts us = true) (hk : k < ts.length) : decide ((k : Int) ∈ ovlF nb ls ts us) = decide (mostOf ls k < flo ls ts us nb k) := by
  rw [decide_eq_decide, mem_ovl h]
  constructor
  · rintro ⟨k', e, _, h2⟩
    obtain rfl : k = k' := by omega
    exact h2
  · exact fun h2 => ⟨k, rfl, hk, h2⟩
/-- P86: with a line off there are no others. -/
theorem ovl_off (h : radF (nb : Int) ls ts us = true) (j : Nat) : ∀ z ∈ ovlF nb ls (ts.set j false) us, z ∈ ovlF nb ls ts us := by
  intro z hz
  obtain ⟨k, rfl, hk, h2⟩ := (mem_ovl (radF_off h j)).1 hz
  rw [List.length_set] at hk
  exact (mem_ovl h).2 ⟨k, rfl, hk, Int.lt_of_lt_of_le h2 (flo_off h j k)⟩
theorem ovl_asc : ∀ (k : Nat) (x y : Int), (ovlF bs ls ts us)[k]? = some x → (ovlF bs ls ts us)[k + 1]? = some y → x < y := by
  intro k x y hx hy
  rw [ovlF] at hx hy
  split at hx
  · rename_i hc
    rw [if_pos hc] at hy
    exact filter_asc _ _ hx hy
  · simp at hx
/-- P6: good networks stay good with fewer lines. -/
theorem god_off (h : godF (nb : Int) ls ts us = true) (j : Nat) : godF (nb : Int) ls (ts.set j false) us = true := by
  obtain ⟨h1, h2, h3⟩ := godF_iff.1 h
  refine godF_iff.2 ⟨radF_off h1 j, ?_, fun b hb hf => ?_⟩
  · rcases Nat.eq_zero_or_pos (ovlF nb ls (ts.set j false) us).length with h0 | h0
    · exact h0
    · obtain ⟨z, hz⟩ := List.exists_mem_of_length_pos h0
      have := List.length_pos_of_mem (ovl_off h1 j z hz)
      omega
  · refine Int.le_trans ?_ (h3 b hb hf)
    refine gsum_le (fun c _ => (ld_bd (okU_bu (radF_iff.1 h1).1) c).1) (fun c _ hc => connB_iff.2 ?_)
    exact CW.conn (k := j) (connB_iff.1 hc)
/-- P6: all loads of buses that are alive are served. -/
theorem god_ser (h : godF (nb : Int) ls ts us = true) : serF nb ls ts us = gsum (fedB (edgesOn ls ts) us) (ld us) nb := by
  obtain ⟨h1, _, h3⟩ := godF_iff.1 h
  obtain ⟨hok, ha, ho⟩ := radF_iff.1 h1
  have hbu := okU_bu hok
  have hul : us.length = nb := by have := busesOk_len hbu; omega
  rw [serF, if_pos hok]
  rw [Int.toNat_natCast] at h3 ⊢
  have e1 := gsum_if (fun _ => true) (serB (edgesOn ls ts) nb us) (ld us) nb
  have e2 := gsum_if (fun _ => true) (fedB (edgesOn ls ts) us) (ld us) nb
  have a1 : gsum (serB (edgesOn ls ts) nb us) (ld us) nb = gsum (fun b => (fun _ => true) b && serB (edgesOn ls ts) nb us b) (ld us) nb := gsum_congr fun b _ => ⟨by simp, rfl⟩
  have a2 : gsum (fedB (edgesOn ls ts) us) (ld us) nb = gsum (fun b => (fun _ => true) b && fedB (edgesOn ls ts) us b) (ld us) nb := gsum_congr fun b _ => ⟨by simp, rfl⟩
  rw [a1, a2, ← e1, ← e2]
  refine gsum_congr fun b hb => ⟨rfl, ?_⟩
  cases hf : fedB (edgesOn ls ts) us b
  · have hz : isum (edgesOn ls ts) nb (fd us) b = 0 := gsum_zero _ (fun c hc => by
      have h4 := (fd_bd hbu c).1
      have h5 : ¬ 0 < fd us c := fun h5 => by
        rw [fedB_iff.2 ⟨c, h5, (connB_iff.1 hc).symm⟩] at hf; cases hf
      omega) _
    cases hs : serB (edgesOn ls ts) nb us b
    · rfl
    · rw [serB, decide_eq_true_eq, hz] at hs
      have h6 : ld us b ≤ isum (edgesOn ls ts) nb (ld us) b := gsum_ge (fun c => (ld_bd hbu c).1) hb (connB_iff.2 (Conn.refl _))
      have h7 := (ld_bd hbu b).1
      simp only [if_true, Bool.false_eq_true, if_false]
      omega
  · obtain ⟨f, h4, h5⟩ := fedB_iff.1 hf
    have h6 : serB (edgesOn ls ts) nb us b = true := by
      rw [serB, decide_eq_true_eq, ← isum_congr h5, ← isum_congr h5]
      refine Int.le_trans (h3 f (by have := fd_lt h4; omega) h4) ?_
      exact gsum_ge (fun c => (fd_bd hbu c).1) (by have := fd_lt h4; omega) (connB_iff.2 (Conn.refl _))
    rw [h6]
theorem fsum_al {ls' : List L3} (hb : busesOk bs ls' us = true) {p : Nat → Bool} {k : Nat} (hk : k ≤ 8) : 0 ≤ gsum p (ld us) k ∧ gsum p (ld us) k ≤ 7992 := by
  have := gsum_bd (p := p) (f := ld us) (M := 999) (k := k) (fun c _ => ld_bd hb c)
  omega
end
end Go.Proofs.YtbhlkcnkijihcaaDoor
