/- Texts joined: Plain facts that the promises of chapter 6 ask for; Plain facts on paths. -/
import Derived.Test.YtcfnkjblhhmbeaaDoorF0
import Derived.Test.YtcfnkjblhhmbeaaDoorY9

/- Plain facts that the promises of chapter 6 ask for. -/
namespace Go.Proofs.YtcfnkjblhhmbeaaDoor
open Go.RowKit

section
variable {bs : Int} {ls : List L3} {ts : List Bool} {us : List U2} {k o b j u v : Nat} {ws : List Nat}
/-- P4 (radial): with a line off it stays radial. -/
theorem radF_off (h : radF bs ls ts us = true) (j : Nat) : radF bs ls (ts.set j false) us = true := by
  obtain ⟨h1, h2, h3⟩ := radF_iff.1 h
  exact radF_iff.2 ⟨by rw [List.length_set]; exact h1, h2.off j, h3.off j⟩
theorem radF_has (h : radF bs ls ts us = true) : hasF bs ls ts = false := by
  obtain ⟨h1, h2, _⟩ := radF_iff.1 h
  exact acyc_has (okU_st h1) h2
/-- A bus that is fed has a way. -/
theorem way_ex (ha : Acyc ls ts) (ho : OneFeed (edgesOn ls ts) us) (h : ∃ f, 0 < fd us f ∧ Conn (edgesOn ls ts) f b) : ∃ ws, Way ls ts us b ws := by
  obtain ⟨f, hf, hc⟩ := h
  have step : ∀ {j u v : Nat}, Ln ls ts j u v → (∃ ws, Way ls ts us u ws) → ∃ ws, Way ls ts us v ws := by
    rintro j u v hl ⟨ws, hw⟩
    by_cases hj : j ∈ ws
    · obtain ⟨b', _, ws', hw', _, _⟩ := hw.at_ j hj
      have hb := hw'
      cases hw' with
      | step hw2 hl2 _ =>
        rcases Ln.two hl hl2 with ⟨_, rfl⟩ | ⟨rfl, _⟩
        · exact ⟨_, hb⟩
        · exact ⟨_, hw2⟩
    · have h2 : ∃ f, 0 < fd us f ∧ CW ls ts j f u := by
        refine Classical.byContradiction fun hn => hj ((hw.mem ha ho j).2 fun f hf hc => hn ⟨f, hf, hc⟩)
      exact ⟨_, .step hw hl h2⟩
  refine Conn.closed (p := fun x => ∃ ws, Way ls ts us x ws) (fun e he => ?_) hc ⟨[], .feed hf⟩
  obtain ⟨j, hj⟩ := (adj_ln (u := e.1) (v := e.2)).1 (.inl he)
  exact ⟨step hj, step hj.symm⟩
theorem gsum_nn {p : Nat → Bool} {f : Nat → Int} (hf : ∀ b, 0 ≤ f b) : ∀ k : Nat, 0 ≤ gsum p f k
  | 0 => by simp [gsum]
  | k + 1 => by
    have := gsum_nn (p := p) hf k
    have := hf k
    rw [gsum]; split <;> omega
theorem gsum_ge {p : Nat → Bool} {f : Nat → Int} (hf : ∀ b, 0 ≤ f b) : ∀ {k c : Nat}, c < k → p c = true → f c ≤ gsum p f k
  | 0, c, h, _ => absurd h (by omega)
  | k + 1, c, h, hp => by
    have h0 := gsum_nn (p := p) hf k
    have h1 := hf k
    rw [gsum]
    by_cases e : c = k
    · subst e; rw [if_pos hp]; omega
    · have := gsum_ge (p := p) hf (k := k) (c := c) (by omega) hp
      split <;> omega
theorem alive_iff (h : okU bs ls ts.length us = true) (hk : k < bs.toNat) : (k : Int) ∈ aliF bs ls ts us ↔ ∃ f, 0 < fd us f ∧ Conn (edgesOn ls ts) f k := by
  have hb := okU_bu h
  have hl : us.length = bs.toNat := by have := busesOk_len hb; have := okU_bs h; omega
  rw [mem_aliF h]
  constructor
  · rintro ⟨b, e, _, hp⟩
    obtain rfl : k = b := by omega
    refine Classical.byContradiction fun hn => ?_
    have : isum (edgesOn ls ts) bs.toNat (fd us) k = 0 := gsum_zero _ (fun c hc => by
      have h1 := (fd_bd hb c).1
      have h2 : ¬ 0 < fd us c := fun h2 => hn ⟨c, h2, (connB_iff.1 hc).symm⟩
      omega) _
    omega
  · rintro ⟨f, hf, hc⟩
    refine ⟨k, rfl, hk, Int.lt_of_lt_of_le hf ?_⟩
    exact gsum_ge (fun c => (fd_bd hb c).1) (by have := fd_lt hf; omega) (connB_iff.2 hc.symm)
theorem wayF_is (ha : Acyc ls ts) (ho : OneFeed (edgesOn ls ts) us) (h : ∃ f, 0 < fd us f ∧ Conn (edgesOn ls ts) f b) : Way ls ts us b (wayF ls ts us b) := by
  obtain ⟨ws, hw⟩ := way_ex ha ho h
  rw [wayF_of ha ho hw]; exact hw
theorem wayF_fed (ha : Acyc ls ts) (ho : OneFeed (edgesOn ls ts) us) (h : j ∈ wayF ls ts us b) : Way ls ts us b (wayF ls ts us b) := by
  refine wayF_is ha ho (fedB_iff.1 ?_)
  cases e : fedB (edgesOn ls ts) us b
  · rw [wayF_unfed e] at h; cases h
  · rfl
theorem bel_mem (h : radF bs ls ts us = true) (hk : k < bs.toNat) : (k : Int) ∈ belF bs ls ts us (j : Int) ↔ j ∈ wayF ls ts us k := by
  rw [belF, if_pos h, ofN_mem]
  constructor
  · rintro ⟨b, hb, e⟩
    obtain rfl : k = b := by omega
    rw [belTo, List.mem_filter] at hb
    have h2 := hb.2
    rw [belB, decide_eq_true_eq, ofN_mem] at h2
    obtain ⟨j', hj, e⟩ := h2
    obtain rfl : j = j' := by omega
    exact hj
  · intro hj
    refine ⟨k, ?_, rfl⟩
    rw [belTo, List.mem_filter, List.mem_range, belB, decide_eq_true_eq, ofN_mem]
    exact ⟨hk, j, hj, rfl⟩
/-- P4: what is below a line lives by it. -/
theorem bel_alive (h : radF bs ls ts us = true) (hk : k < bs.toNat) : decide ((k : Int) ∈ belF bs ls ts us (j : Int)) = (decide ((k : Int) ∈ aliF bs ls ts us) && !decide ((k : Int) ∈ aliF bs ls (ts.set j false) us)) := by
  obtain ⟨h1, ha, ho⟩ := radF_iff.1 h
  have h2 : okU bs ls (ts.set j false).length us = true := by rw [List.length_set]; exact h1
  rw [Bool.eq_iff_iff, Bool.and_eq_true, Bool.not_eq_true', decide_eq_true_eq, decide_eq_true_eq, decide_eq_false_iff_not, bel_mem h hk, alive_iff h1 hk, alive_iff h2 hk]
  constructor
  · intro hj
    have hw := wayF_fed ha ho hj
    exact ⟨hw.fed, fun ⟨f, hf, hc⟩ => (hw.mem ha ho j).1 hj f hf hc⟩
  · rintro ⟨hf, hn⟩
    exact ((wayF_is ha ho hf).mem ha ho j).2 fun f hf hc => hn ⟨f, hf, hc⟩
theorem belF_asc (line : Int) : ∀ (k : Nat) (x y : Int), (belF bs ls ts us line)[k]? = some x → (belF bs ls ts us line)[k + 1]? = some y → x < y := by
  intro k x y hx hy
  rw [belF] at hx hy
  split at hx
  · rename_i hc
    rw [if_pos hc] at hy
    exact filter_asc _ _ hx hy
  · simp at hx
theorem wayF_on (h : j ∈ wayF ls ts us b) (ha : Acyc ls ts) (ho : OneFeed (edgesOn ls ts) us) : j < ts.length ∧ ts[j]? = some true := (wayF_fed ha ho h).on j h
theorem belF_out {line : Int} (hx : line < 0 ∨ (ts.length : Int) ≤ line) : belF bs ls ts us line = [] := by
  rw [belF]
  split
  · rename_i h
    obtain ⟨h1, ha, ho⟩ := radF_iff.1 h
    have : belTo ls ts us line bs.toNat = [] := by
      rw [belTo, List.filter_eq_nil_iff]
      intro b _ hb
      rw [belB, decide_eq_true_eq, ofN_mem] at hb
      obtain ⟨j, hj, e⟩ := hb
      have := (wayF_on hj ha ho).1
      omega
    rw [this]; rfl
  · rfl
theorem belF_bad {line : Int} (h : radF bs ls ts us = false) : belF bs ls ts us line = [] := by rw [belF, if_neg (by rw [h]; decide)]
/-- FedBy below 0. -/
theorem fby_un {bus : Int} (h : fbyF bs ls ts us bus < 0) : fbyF bs ls ts us bus = -1 ∧ (radF bs ls ts us = false ∨ decide (bus ∈ aliF bs ls ts us) = false) := by
  cases hr : radF bs ls ts us
  · exact ⟨by rw [fbyF, if_neg (by rw [hr]; rintro ⟨h, _⟩; cases h)], .inl rfl⟩
  obtain ⟨h1, ha, ho⟩ := radF_iff.1 hr
  rw [fbyF] at h ⊢
  by_cases hb : inB bus 0 (bs - 1) = true
  · rw [if_pos ⟨hr, hb⟩] at h ⊢
    have hb2 : 0 ≤ bus ∧ bus ≤ bs - 1 := by simpa [inB] using hb
    have hl : us.length = bs.toNat := by have := busesOk_len (okU_bu h1); have := okU_bs h1; omega
    cases hf : fedB (edgesOn ls ts) us bus.toNat
    · refine ⟨feedOf_none hf _, .inr ?_⟩
      rw [decide_eq_false_iff_not]
      intro hm
      rw [show bus = ((bus.toNat : Nat) : Int) by omega, alive_iff h1 (by omega)] at hm
      rw [fedB_iff.2 hm] at hf; cases hf
    · obtain ⟨f, hf1, hf2⟩ := fedB_iff.1 hf
      rw [feedOf_some ho hf1 hf2 hl] at h
      omega
  · rw [if_neg (fun h => hb h.2)]
    refine ⟨rfl, .inr ?_⟩
    rw [decide_eq_false_iff_not]
    intro hm
    obtain ⟨b, e, hlt, _⟩ := (mem_aliF h1).1 hm
    apply hb
    simp [inB]; omega
/-- FedBy of a bus that is fed. -/
theorem fby_feed {bus : Int} (h : ¬ fbyF bs ls ts us bus < 0) : ∃ f c : Nat, bus = (c : Int) ∧ (c : Int) < bs ∧ fbyF bs ls ts us bus = (f : Int) ∧ radF bs ls ts us = true ∧ f < us.length ∧ us.length = bs.toNat ∧ 0 < fd us f ∧ Conn (edgesOn ls ts) f c := by
  rw [fbyF] at h ⊢
  split at h
  · rename_i hc
    obtain ⟨hr, hb⟩ := hc
    obtain ⟨h1, ha, ho⟩ := radF_iff.1 hr
    have hb2 : 0 ≤ bus ∧ bus ≤ bs - 1 := by simpa [inB] using hb
    have hl : us.length = bs.toNat := by have := busesOk_len (okU_bu h1); have := okU_bs h1; omega
    rw [if_pos ⟨hr, hb⟩]
    cases hf : fedB (edgesOn ls ts) us bus.toNat
    · rw [feedOf_none hf] at h; omega
    · obtain ⟨f, hf1, hf2⟩ := fedB_iff.1 hf
      rw [feedOf_some ho hf1 hf2 hl]
      exact ⟨f, bus.toNat, by omega, by omega, rfl, hr, fd_lt hf1, hl, hf1, hf2⟩
  · omega
theorem fby_of {f c : Nat} (hr : radF bs ls ts us = true) (hc : (c : Int) < bs) (hf : 0 < fd us f) (hcc : Conn (edgesOn ls ts) f c) : fbyF bs ls ts us (c : Int) = (f : Int) := by
  obtain ⟨h1, ha, ho⟩ := radF_iff.1 hr
  have hl : us.length = bs.toNat := by have := busesOk_len (okU_bu h1); have := okU_bs h1; omega
  rw [fbyF, if_pos ⟨hr, by simp [inB]; omega⟩]
  exact feedOf_some ho hf hcc hl
theorem sam_of {f c : Nat} (hs : stOk bs ls ts.length = true) (hf : (f : Int) < bs) (hc : (c : Int) < bs) (hcc : Conn (edgesOn ls ts) f c) : samF bs ls ts (f : Int) (c : Int) = true := by
  rw [samF, hs, Bool.true_and, Bool.and_eq_true, Bool.and_eq_true, connB_iff]
  exact ⟨⟨by simp [inB]; omega, by simp [inB]; omega⟩, hcc⟩
theorem sam_feed {f c k : Nat} (ho : OneFeed (edgesOn ls ts) us) (hf : 0 < fd us f) (hk : 0 < fd us k) (hcc : Conn (edgesOn ls ts) f c) (hne : k ≠ f) : samF bs ls ts (k : Int) (c : Int) = false := by
  cases h : samF bs ls ts (k : Int) (c : Int)
  · rfl
  · exact absurd (ho k f hk hf ((samF_conn h).trans hcc.symm)) hne
end
end Go.Proofs.YtcfnkjblhhmbeaaDoor

/- Plain facts on paths. -/
namespace Go.Proofs.YtcfnkjblhhmbeaaDoor
open Go.RowKit

/-- From a along the lines xs one comes to c. -/
def Chain (ls : List L3) (ts : List Bool) : Nat → List Nat → Nat → Prop
  | a, [], c => a = c
  | a, x :: xs, c => ∃ a', Ln ls ts x a a' ∧ Chain ls ts a' xs c
section
variable {bs : Int} {ls : List L3} {ts : List Bool} {us : List U2} {k o b j u v a c : Nat} {ws xs : List Nat}
theorem Chain.snoc : ∀ {xs : List Nat} {a : Nat}, Chain ls ts a xs o → Ln ls ts k o b → Chain ls ts a (xs ++ [k]) b
  | [], a, h, hl => by
    have e : a = o := h
    subst e
    exact ⟨b, hl, rfl⟩
  | x :: xs, a, h, hl => by
    obtain ⟨a', h1, h2⟩ := h
    exact ⟨a', h1, Chain.snoc h2 hl⟩
theorem Way.chain (h : Way ls ts us b ws) : ∃ f, 0 < fd us f ∧ Conn (edgesOn ls ts) f b ∧ Chain ls ts f ws.reverse b := by
  induction h with
  | feed hb => exact ⟨_, hb, Conn.refl _, rfl⟩
  | step _ hl _ ih =>
    obtain ⟨f, hf, hc, h2⟩ := ih
    refine ⟨f, hf, hc.trans hl.conn, ?_⟩
    rw [List.reverse_cons]
    exact h2.snoc hl
theorem other_ln (hs : stOk bs ls ts.length = true) (hl : Ln ls ts k o c) : otherF bs ls (k : Int) (c : Int) = (o : Int) := by
  have hv := stOk_net hs
  have hne := hl.ne hv
  obtain ⟨l, h1, h2, h3⟩ := hl
  obtain ⟨a0, a1, b0, b1⟩ := line_in hs h1
  have hk := (List.getElem?_eq_some_iff.1 h1).1
  have hg : ls.getD k (0, 0, 0) = l := by rw [List.getD_eq_getElem?_getD, h1]; rfl
  rw [otherF, if_pos ⟨hv, by omega, by omega⟩, Int.toNat_natCast, hg]
  rcases h3 with ⟨h3, h4⟩ | ⟨h3, h4⟩
  · rw [if_neg (by omega), if_pos (by omega)]; omega
  · rw [if_pos (by omega)]; omega
theorem pln_neg {bus : Int} (h : plnF bs ls ts us bus < 0) : plnF bs ls ts us bus = -1 ∧ patF bs ls ts us bus = [] := by
  rw [plnF] at h ⊢
  rw [patF]
  split at h
  · rename_i hc
    rw [if_pos hc, if_pos hc]
    cases hw : wayF ls ts us bus.toNat with
    | nil => exact ⟨rfl, rfl⟩
    | cons k ws => rw [hw] at h; simp only [hd1] at h; omega
  · rename_i hc
    rw [if_neg hc, if_neg hc]
    exact ⟨rfl, rfl⟩
theorem pln_pos {bus : Int} (h : ¬ plnF bs ls ts us bus < 0) : ∃ c k o : Nat, bus = (c : Int) ∧ plnF bs ls ts us bus = (k : Int) ∧ stOk bs ls ts.length = true ∧ k < ts.length ∧ ts[k]? = some true ∧ otherF bs ls (k : Int) bus = (o : Int) ∧ fbyF bs ls ts us (o : Int) = fbyF bs ls ts us bus ∧ patF bs ls ts us bus = patF bs ls ts us (o : Int) ++ [(k : Int)] := by
  rw [plnF] at h
  split at h
  · rename_i hc
    obtain ⟨hr, hb⟩ := hc
    obtain ⟨h1, ha, ho⟩ := radF_iff.1 hr
    have hs := okU_st h1
    have hbs := okU_bs h1
    have hb2 : 0 ≤ bus ∧ bus ≤ bs - 1 := by simpa [inB] using hb
    obtain ⟨c, rfl⟩ := Int.eq_ofNat_of_zero_le hb2.1
    rw [Int.toNat_natCast] at h
    cases hw : wayF ls ts us c with
    | nil => rw [hw] at h; simp [hd1] at h
    | cons k ws =>
      obtain ⟨o, hl, hwo, hwo2⟩ := wayF_cons ha ho hw
      obtain ⟨f, hf, hcf⟩ := hwo.fed
      have hol := hl.lt (stOk_net hs)
      have hbo : inB (o : Int) 0 (bs - 1) = true := by simp [inB]; omega
      refine ⟨c, k, o, rfl, ?_, hs, hl.len, ?_, other_ln hs hl, ?_, ?_⟩
      · rw [plnF, if_pos ⟨hr, hb⟩, Int.toNat_natCast, hw]; rfl
      · obtain ⟨l, _, h2, _⟩ := hl; exact h2
      · rw [fby_of hr (by omega) hf hcf, fby_of hr (by omega) hf (hcf.trans hl.conn)]
      · rw [patF, if_pos ⟨hr, hb⟩, patF, if_pos ⟨hr, hbo⟩, Int.toNat_natCast, Int.toNat_natCast, hw, hwo2, List.reverse_cons]
        simp [ofN]
  · omega
theorem pat_none {bus : Int} (h : (patF bs ls ts us bus).length = 0) : fbyF bs ls ts us bus = -1 ∨ fbyF bs ls ts us bus = bus := by
  by_cases hx : fbyF bs ls ts us bus < 0
  · exact .inl (fby_un hx).1
  · obtain ⟨f, c, rfl, hc, he, hr, _, _, hf, hcf⟩ := fby_feed hx
    obtain ⟨h1, ha, ho⟩ := radF_iff.1 hr
    rw [patF, if_pos ⟨hr, by simp [inB]; omega⟩, ofN_len, List.length_reverse, Int.toNat_natCast] at h
    have hw := wayF_is ha ho ⟨f, hf, hcf⟩
    rw [List.length_eq_zero_iff.1 h] at hw
    cases hw with
    | feed hb => exact .inr (fby_of hr hc hb (Conn.refl _))
theorem pat_some {bus : Int} (h : ¬ (patF bs ls ts us bus).length = 0) : ∃ (f c : Nat) (xs : List Nat), bus = (c : Int) ∧ patF bs ls ts us bus = ofN xs ∧ stOk bs ls ts.length = true ∧ fbyF bs ls ts us bus = (f : Int) ∧ Chain ls ts f xs c ∧ xs.Nodup ∧ ∀ x ∈ xs, x < ts.length ∧ ts[x]? = some true := by
  rw [patF] at h ⊢
  split at h
  · rename_i hc
    obtain ⟨hr, hb⟩ := hc
    obtain ⟨h1, ha, ho⟩ := radF_iff.1 hr
    have hbs := okU_bs h1
    have hb2 : 0 ≤ bus ∧ bus ≤ bs - 1 := by simpa [inB] using hb
    obtain ⟨c, rfl⟩ := Int.eq_ofNat_of_zero_le hb2.1
    rw [ofN_len, List.length_reverse, Int.toNat_natCast] at h
    obtain ⟨j, hj⟩ := List.exists_mem_of_length_pos (Nat.pos_of_ne_zero h)
    have hw := wayF_fed ha ho hj
    obtain ⟨f, hf, hcf, hch⟩ := hw.chain
    refine ⟨f, c, _, rfl, by rw [if_pos ⟨hr, hb⟩, Int.toNat_natCast], okU_st h1, fby_of hr (by omega) hf hcf, hch, List.pairwise_reverse.2 ((hw.nodup ha ho).imp fun h => Ne.symm h), fun x hx => hw.on x (List.mem_reverse.1 hx)⟩
  · exact absurd rfl h
theorem chain_at {x : Nat} (h : Chain ls ts a (xs.drop k) c) (hx : xs[k]? = some x) : ∃ a', Ln ls ts x a a' ∧ Chain ls ts a' (xs.drop (k + 1)) c := by
  obtain ⟨hk, e⟩ := List.getElem?_eq_some_iff.1 hx
  rw [List.drop_eq_getElem_cons hk, e] at h
  exact h
theorem chain_end (h : Chain ls ts a (xs.drop xs.length) c) : a = c := by
  rw [List.drop_length] at h; exact h
theorem nodup_take {x : Nat} (h : xs.Nodup) (hx : xs[k]? = some x) : decide ((x : Int) ∈ (ofN xs).take k) = false := by
  rw [decide_eq_false_iff_not]
  intro hm
  obtain ⟨hk, e⟩ := List.getElem?_eq_some_iff.1 hx
  obtain ⟨i, hi, e2⟩ := List.getElem_of_mem hm
  rw [List.length_take] at hi
  rw [List.getElem_take] at e2
  have hi2 : i < xs.length := by omega
  have e3 : (xs[i]'hi2 : Int) = (x : Int) := by rw [← e2]; simp [ofN]
  have e4 : xs[i]'hi2 = xs[k]'hk := by rw [e]; omega
  have := (List.getElem_inj h).1 e4
  omega
end
end Go.Proofs.YtcfnkjblhhmbeaaDoor
