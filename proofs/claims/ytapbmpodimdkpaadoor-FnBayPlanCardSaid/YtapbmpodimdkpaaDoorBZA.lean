/- Texts joined: Plain facts that the promises of chapter 6 ask for; Plain facts on paths; Flows, plain facts: what a line carries, what comes to a bus; what comes in goes out; Flows, plain facts: one pass over all buses that are fed, from the ends to the feeds; Plain facts that the promises of chapter 7 ask for. -/
import Derived.Test.YtapbmpodimdkpaaDoorBFA
import Derived.Test.YtapbmpodimdkpaaDoorBPC

/- Plain facts that the promises of chapter 6 ask for. -/
namespace Go.Proofs.YtapbmpodimdkpaaDoor
open Go.RowKit

section
variable {bs : Int} {ls : List L3} {ts : List Bool} {us : List U2} {k o b j u v : Nat} {ws : List Nat}
/-- P4 (radial): with a line off it stays radial. -/
theorem radF_off (h : radF bs ls ts us = true) (j : Nat) : radF bs ls (ts.set j false) us = true := by
  obtain ⟨h1, h2, h3⟩ := radF_iff.1 h
  exact radF_iff.2 ⟨by rw [List.length_set]; exact h1, h2.off j, h3.off j⟩
theorem radF_has (h : radF bs ls ts us = true) : hasF bs ls ts = false := by
  obtain ⟨h1, h2, _⟩ := radF_iff.1 h
  exact acyc_has (okU_st h1) h2
/-- A bus that is fed has a way. -/
theorem way_ex (ha : Acyc ls ts) (ho : OneFeed (edgesOn ls ts) us) (h : ∃ f, 0 < fd us f ∧ Conn (edgesOn ls ts) f b) : ∃ ws, Way ls ts us b ws := by
  obtain ⟨f, hf, hc⟩ := h
  have step : ∀ {j u v : Nat}, Ln ls ts j u v → (∃ ws, Way ls ts us u ws) → ∃ ws, Way ls ts us v ws := by
    rintro j u v hl ⟨ws, hw⟩
    by_cases hj : j ∈ ws
    · obtain ⟨b', _, ws', hw', _, _⟩ := hw.at_ j hj
      have hb := hw'
      cases hw' with
      | step hw2 hl2 _ =>
        rcases Ln.two hl hl2 with ⟨_, rfl⟩ | ⟨rfl, _⟩
        · exact ⟨_, hb⟩
        · exact ⟨_, hw2⟩
    · have h2 : ∃ f, 0 < fd us f ∧ CW ls ts j f u := by
        refine Classical.byContradiction fun hn => hj ((hw.mem ha ho j).2 fun f hf hc => hn ⟨f, hf, hc⟩)
      exact ⟨_, .step hw hl h2⟩
  refine Conn.closed (p := fun x => ∃ ws, Way ls ts us x ws) (fun e he => ?_) hc ⟨[], .feed hf⟩
  obtain ⟨j, hj⟩ := (adj_ln (u := e.1) (v := e.2)).1 (.inl he)
  exact ⟨step hj, step hj.symm⟩
theorem gsum_nn {p : Nat → Bool} {f : Nat → Int} (hf : ∀ b, 0 ≤ f b) : ∀ k : Nat, 0 ≤ gsum p f k
  | 0 => by simp [gsum]
  | k + 1 => by
    have := gsum_nn (p := p) hf k
    have := hf k
    rw [gsum]; split <;> omega
theorem gsum_ge {p : Nat → Bool} {f : Nat → Int} (hf : ∀ b, 0 ≤ f b) : ∀ {k c : Nat}, c < k → p c = true → f c ≤ gsum p f k
  | 0, c, h, _ => absurd h (by omega)
  | k + 1, c, h, hp => by
    have h0 := gsum_nn (p := p) hf k
    have h1 := hf k
    rw [gsum]
    by_cases e : c = k
    · subst e; rw [if_pos hp]; omega
    · have := gsum_ge (p := p) hf (k := k) (c := c) (by omega) hp
      split <;> omega
theorem alive_iff (h : okU bs ls ts.length us = true) (hk : k < bs.toNat) : (k : Int) ∈ aliF bs ls ts us ↔ ∃ f, 0 < fd us f ∧ Conn (edgesOn ls ts) f k := by
  have hb := okU_bu h
  have hl : us.length = bs.toNat := by have := busesOk_len hb; have := okU_bs h; omega
  rw [mem_aliF h]
  constructor
  · rintro ⟨b, e, _, hp⟩
    obtain rfl : k = b := by omega
    refine Classical.byContradiction fun hn => ?_
    have : isum (edgesOn ls ts) bs.toNat (fd us) k = 0 := gsum_zero _ (fun c hc => by
      have h1 := (fd_bd hb c).1
      have h2 : ¬ 0 < fd us c := fun h2 => hn ⟨c, h2, (connB_iff.1 hc).symm⟩
      omega) _
    omega
  · rintro ⟨f, hf, hc⟩
    refine ⟨k, rfl, hk, Int.lt_of_lt_of_le hf ?_⟩
    exact gsum_ge (fun c => (fd_bd hb c).1) (by have := fd_lt hf; omega) (connB_iff.2 hc.symm)
theorem wayF_is (ha : Acyc ls ts) (ho : OneFeed (edgesOn ls ts) us) (h : ∃ f, 0 < fd us f ∧ Conn (edgesOn ls ts) f b) : Way ls ts us b (wayF ls ts us b) := by
  obtain ⟨ws, hw⟩ := way_ex ha ho h
  rw [wayF_of ha ho hw]; exact hw
theorem wayF_fed (ha : Acyc ls ts) (ho : OneFeed (edgesOn ls ts) us) (h : j ∈ wayF ls ts us b) : Way ls ts us b (wayF ls ts us b) := by
  refine wayF_is ha ho (fedB_iff.1 ?_)
  cases e : fedB (edgesOn ls ts) us b
  · rw [wayF_unfed e] at h; cases h
  · rfl
theorem bel_mem (h : radF bs ls ts us = true) (hk : k < bs.toNat) : (k : Int) ∈ belF bs ls ts us (j : Int) ↔ j ∈ wayF ls ts us k := by
  rw [belF, if_pos h, ofN_mem]
  constructor
  · rintro ⟨b, hb, e⟩
    obtain rfl : k = b := by omega
    rw [belTo, List.mem_filter] at hb
    have h2 := hb.2
    rw [belB, decide_eq_true_eq, ofN_mem] at h2
    obtain ⟨j', hj, e⟩ := h2
    obtain rfl : j = j' := by omega
    exact hj
  · intro hj
    refine ⟨k, ?_, rfl⟩
    rw [belTo, List.mem_filter, List.mem_range, belB, decide_eq_true_eq, ofN_mem]
    exact ⟨hk, j, hj, rfl⟩
/-- P4: what is below a line lives by it. -/
theorem bel_alive (h : radF bs ls ts us = true) (hk : k < bs.toNat) : decide ((k : Int) ∈ belF bs ls ts us (j : Int)) = (decide ((k : Int) ∈ aliF bs ls ts us) && !decide ((k : Int) ∈ aliF bs ls (ts.set j false) us)) := by
  obtain ⟨h1, ha, ho⟩ := radF_iff.1 h
  have h2 : okU bs ls (ts.set j false).length us = true := by rw [List.length_set]; exact h1
  rw [Bool.eq_iff_iff, Bool.and_eq_true, Bool.not_eq_true', decide_eq_true_eq, decide_eq_true_eq, decide_eq_false_iff_not, bel_mem h hk, alive_iff h1 hk, alive_iff h2 hk]
  constructor
  · intro hj
    have hw := wayF_fed ha ho hj
    exact ⟨hw.fed, fun ⟨f, hf, hc⟩ => (hw.mem ha ho j).1 hj f hf hc⟩
  · rintro ⟨hf, hn⟩
    exact ((wayF_is ha ho hf).mem ha ho j).2 fun f hf hc => hn ⟨f, hf, hc⟩
theorem belF_asc (line : Int) : ∀ (k : Nat) (x y : Int), (belF bs ls ts us line)[k]? = some x → (belF bs ls ts us line)[k + 1]? = some y → x < y := by
  intro k x y hx hy
  rw [belF] at hx hy
  split at hx
  · rename_i hc
    rw [if_pos hc] at hy
    exact filter_asc _ _ hx hy
  · simp at hx
theorem wayF_on (h : j ∈ wayF ls ts us b) (ha : Acyc ls ts) (ho : OneFeed (edgesOn ls ts) us) : j < ts.length ∧ ts[j]? = some true := (wayF_fed ha ho h).on j h
theorem belF_out {line : Int} (hx : line < 0 ∨ (ts.length : Int) ≤ line) : belF bs ls ts us line = [] := by
  rw [belF]
  split
  · rename_i h
    obtain ⟨h1, ha, ho⟩ := radF_iff.1 h
    have : belTo ls ts us line bs.toNat = [] := by
      rw [belTo, List.filter_eq_nil_iff]
      intro b _ hb
      rw [belB, decide_eq_true_eq, ofN_mem] at hb
      obtain ⟨j, hj, e⟩ := hb
      have := (wayF_on hj ha ho).1
      omega
    rw [this]; rfl
  · rfl
theorem belF_bad {line : Int} (h : radF bs ls ts us = false) : belF bs ls ts us line = [] := by rw [belF, if_neg (by rw [h]; decide)]
/-- FedBy below 0. -/
theorem fby_un {bus : Int} (h : fbyF bs ls ts us bus < 0) : fbyF bs ls ts us bus = -1 ∧ (radF bs ls ts us = false ∨ decide (bus ∈ aliF bs ls ts us) = false) := by
  cases hr : radF bs ls ts us
  · exact ⟨by rw [fbyF, if_neg (by rw [hr]; rintro ⟨h, _⟩; cases h)], .inl rfl⟩
  obtain ⟨h1, ha, ho⟩ := radF_iff.1 hr
  rw [fbyF] at h ⊢
  by_cases hb : inB bus 0 (bs - 1) = true
  · rw [if_pos ⟨hr, hb⟩] at h ⊢
    have hb2 : 0 ≤ bus ∧ bus ≤ bs - 1 := by simpa [inB] using hb
    have hl : us.length = bs.toNat := by have := busesOk_len (okU_bu h1); have := okU_bs h1; omega
    cases hf : fedB (edgesOn ls ts) us bus.toNat
    · refine ⟨feedOf_none hf _, .inr ?_⟩
      rw [decide_eq_false_iff_not]
      intro hm
      rw [show bus = ((bus.toNat : Nat) : Int) by omega, alive_iff h1 (by omega)] at hm
      rw [fedB_iff.2 hm] at hf; cases hf
    · obtain ⟨f, hf1, hf2⟩ := fedB_iff.1 hf
      rw [feedOf_some ho hf1 hf2 hl] at h
      omega
  · rw [if_neg (fun h => hb h.2)]
    refine ⟨rfl, .inr ?_⟩
    rw [decide_eq_false_iff_not]
    intro hm
    obtain ⟨b, e, hlt, _⟩ := (mem_aliF h1).1 hm
    apply hb
    simp [inB]; omega
/-- FedBy of a bus that is fed. -/
theorem fby_feed {bus : Int} (h : ¬ fbyF bs ls ts us bus < 0) : ∃ f c : Nat, bus = (c : Int) ∧ (c : Int) < bs ∧ fbyF bs ls ts us bus = (f : Int) ∧ radF bs ls ts us = true ∧ f < us.length ∧ us.length = bs.toNat ∧ 0 < fd us f ∧ Conn (edgesOn ls ts) f c := by
  rw [fbyF] at h ⊢
  split at h
  · rename_i hc
    obtain ⟨hr, hb⟩ := hc
    obtain ⟨h1, ha, ho⟩ := radF_iff.1 hr
    have hb2 : 0 ≤ bus ∧ bus ≤ bs - 1 := by simpa [inB] using hb
    have hl : us.length = bs.toNat := by have := busesOk_len (okU_bu h1); have := okU_bs h1; omega
    rw [if_pos ⟨hr, hb⟩]
    cases hf : fedB (edgesOn ls ts) us bus.toNat
    · rw [feedOf_none hf] at h; omega
    · obtain ⟨f, hf1, hf2⟩ := fedB_iff.1 hf
      rw [feedOf_some ho hf1 hf2 hl]
      exact ⟨f, bus.toNat, by omega, by omega, rfl, hr, fd_lt hf1, hl, hf1, hf2⟩
  · omega
theorem fby_of {f c : Nat} (hr : radF bs ls ts us = true) (hc : (c : Int) < bs) (hf : 0 < fd us f) (hcc : Conn (edgesOn ls ts) f c) : fbyF bs ls ts us (c : Int) = (f : Int) := by
  obtain ⟨h1, ha, ho⟩ := radF_iff.1 hr
  have hl : us.length = bs.toNat := by have := busesOk_len (okU_bu h1); have := okU_bs h1; omega
  rw [fbyF, if_pos ⟨hr, by simp [inB]; omega⟩]
  exact feedOf_some ho hf hcc hl
theorem sam_of {f c : Nat} (hs : stOk bs ls ts.length = true) (hf : (f : Int) < bs) (hc : (c : Int) < bs) (hcc : Conn (edgesOn ls ts) f c) : samF bs ls ts (f : Int) (c : Int) = true := by
  rw [samF, hs, Bool.true_and, Bool.and_eq_true, Bool.and_eq_true, connB_iff]
  exact ⟨⟨by simp [inB]; omega, by simp [inB]; omega⟩, hcc⟩
theorem sam_feed {f c k : Nat} (ho : OneFeed (edgesOn ls ts) us) (hf : 0 < fd us f) (hk : 0 < fd us k) (hcc : Conn (edgesOn ls ts) f c) (hne : k ≠ f) : samF bs ls ts (k : Int) (c : Int) = false := by
  cases h : samF bs ls ts (k : Int) (c : Int)
  · rfl
  · exact absurd (ho k f hk hf ((samF_conn h).trans hcc.symm)) hne
end
end Go.Proofs.YtapbmpodimdkpaaDoor

/- Plain facts on paths. -/
namespace Go.Proofs.YtapbmpodimdkpaaDoor
open Go.RowKit

/-- From a along the lines xs one comes to c. -/
def Chain (ls : List L3) (ts : List Bool) : Nat → List Nat → Nat → Prop
  | a, [], c => a = c
  | a, x :: xs, c => ∃ a', Ln ls ts x a a' ∧ Chain ls ts a' xs c
section
variable {bs : Int} {ls : List L3} {ts : List Bool} {us : List U2} {k o b j u v a c : Nat} {ws xs : List Nat}
theorem Chain.snoc : ∀ {xs : List Nat} {a : Nat}, Chain ls ts a xs o → Ln ls ts k o b → Chain ls ts a (xs ++ [k]) b
  | [], a, h, hl => by
    have e : a = o := h
    subst e
    exact ⟨b, hl, rfl⟩
  | x :: xs, a, h, hl => by
    obtain ⟨a', h1, h2⟩ := h
    exact ⟨a', h1, Chain.snoc h2 hl⟩
theorem Way.chain (h : Way ls ts us b ws) : ∃ f, 0 < fd us f ∧ Conn (edgesOn ls ts) f b ∧ Chain ls ts f ws.reverse b := by
  induction h with
  | feed hb => exact ⟨_, hb, Conn.refl _, rfl⟩
  | step _ hl _ ih =>
    obtain ⟨f, hf, hc, h2⟩ := ih
    refine ⟨f, hf, hc.trans hl.conn, ?_⟩
    rw [List.reverse_cons]
    exact h2.snoc hl
theorem other_ln (hs : stOk bs ls ts.length = true) (hl : Ln ls ts k o c) : otherF bs ls (k : Int) (c : Int) = (o : Int) := by
  have hv := stOk_net hs
  have hne := hl.ne hv
  obtain ⟨l, h1, h2, h3⟩ := hl
  obtain ⟨a0, a1, b0, b1⟩ := line_in hs h1
  have hk := (List.getElem?_eq_some_iff.1 h1).1
  have hg : ls.getD k (0, 0, 0) = l := by rw [List.getD_eq_getElem?_getD, h1]; rfl
  rw [otherF, if_pos ⟨hv, by omega, by omega⟩, Int.toNat_natCast, hg]
  rcases h3 with ⟨h3, h4⟩ | ⟨h3, h4⟩
  · rw [if_neg (by omega), if_pos (by omega)]; omega
  · rw [if_pos (by omega)]; omega
theorem pln_neg {bus : Int} (h : plnF bs ls ts us bus < 0) : plnF bs ls ts us bus = -1 ∧ patF bs ls ts us bus = [] := by
  rw [plnF] at h ⊢
  rw [patF]
  split at h
  · rename_i hc
    rw [if_pos hc, if_pos hc]
    cases hw : wayF ls ts us bus.toNat with
    | nil => exact ⟨rfl, rfl⟩
    | cons k ws => rw [hw] at h; simp only [hd1] at h; omega
  · rename_i hc
    rw [if_neg hc, if_neg hc]
    exact ⟨rfl, rfl⟩
theorem pln_pos {bus : Int} (h : ¬ plnF bs ls ts us bus < 0) : ∃ c k o : Nat, bus = (c : Int) ∧ plnF bs ls ts us bus = (k : Int) ∧ stOk bs ls ts.length = true ∧ k < ts.length ∧ ts[k]? = some true ∧ otherF bs ls (k : Int) bus = (o : Int) ∧ fbyF bs ls ts us (o : Int) = fbyF bs ls ts us bus ∧ patF bs ls ts us bus = patF bs ls ts us (o : Int) ++ [(k : Int)] := by
  rw [plnF] at h
  split at h
  · rename_i hc
    obtain ⟨hr, hb⟩ := hc
    obtain ⟨h1, ha, ho⟩ := radF_iff.1 hr
    have hs := okU_st h1
    have hbs := okU_bs h1
    have hb2 : 0 ≤ bus ∧ bus ≤ bs - 1 := by simpa [inB] using hb
    obtain ⟨c, rfl⟩ := Int.eq_ofNat_of_zero_le hb2.1
    rw [Int.toNat_natCast] at h
    cases hw : wayF ls ts us c with
    | nil => rw [hw] at h; simp [hd1] at h
    | cons k ws =>
      obtain ⟨o, hl, hwo, hwo2⟩ := wayF_cons ha ho hw
      obtain ⟨f, hf, hcf⟩ := hwo.fed
      have hol := hl.lt (stOk_net hs)
      have hbo : inB (o : Int) 0 (bs - 1) = true := by simp [inB]; omega
      refine ⟨c, k, o, rfl, ?_, hs, hl.len, ?_, other_ln hs hl, ?_, ?_⟩
      · rw [plnF, if_pos ⟨hr, hb⟩, Int.toNat_natCast, hw]; rfl
      · obtain ⟨l, _, h2, _⟩ := hl; exact h2
      · rw [fby_of hr (by omega) hf hcf, fby_of hr (by omega) hf (hcf.trans hl.conn)]
      · rw [patF, if_pos ⟨hr, hb⟩, patF, if_pos ⟨hr, hbo⟩, Int.toNat_natCast, Int.toNat_natCast, hw, hwo2, List.reverse_cons]
        simp [ofN]
  · omega
theorem pat_none {bus : Int} (h : (patF bs ls ts us bus).length = 0) : fbyF bs ls ts us bus = -1 ∨ fbyF bs ls ts us bus = bus := by
  by_cases hx : fbyF bs ls ts us bus < 0
  · exact .inl (fby_un hx).1
  · obtain ⟨f, c, rfl, hc, he, hr, _, _, hf, hcf⟩ := fby_feed hx
    obtain ⟨h1, ha, ho⟩ := radF_iff.1 hr
    rw [patF, if_pos ⟨hr, by simp [inB]; omega⟩, ofN_len, List.length_reverse, Int.toNat_natCast] at h
    have hw := wayF_is ha ho ⟨f, hf, hcf⟩
    rw [List.length_eq_zero_iff.1 h] at hw
    cases hw with
    | feed hb => exact .inr (fby_of hr hc hb (Conn.refl _))
theorem pat_some {bus : Int} (h : ¬ (patF bs ls ts us bus).length = 0) : ∃ (f c : Nat) (xs : List Nat), bus = (c : Int) ∧ patF bs ls ts us bus = ofN xs ∧ stOk bs ls ts.length = true ∧ fbyF bs ls ts us bus = (f : Int) ∧ Chain ls ts f xs c ∧ xs.Nodup ∧ ∀ x ∈ xs, x < ts.length ∧ ts[x]? = some true := by
  rw [patF] at h ⊢
  split at h
  · rename_i hc
    obtain ⟨hr, hb⟩ := hc
    obtain ⟨h1, ha, ho⟩ := radF_iff.1 hr
    have hbs := okU_bs h1
    have hb2 : 0 ≤ bus ∧ bus ≤ bs - 1 := by simpa [inB] using hb
    obtain ⟨c, rfl⟩ := Int.eq_ofNat_of_zero_le hb2.1
    rw [ofN_len, List.length_reverse, Int.toNat_natCast] at h
    obtain ⟨j, hj⟩ := List.exists_mem_of_length_pos (Nat.pos_of_ne_zero h)
    have hw := wayF_fed ha ho hj
    obtain ⟨f, hf, hcf, hch⟩ := hw.chain
    refine ⟨f, c, _, rfl, by rw [if_pos ⟨hr, hb⟩, Int.toNat_natCast], okU_st h1, fby_of hr (by omega) hf hcf, hch, List.pairwise_reverse.2 ((hw.nodup ha ho).imp fun h => Ne.symm h), fun x hx => hw.on x (List.mem_reverse.1 hx)⟩
  · exact absurd rfl h
theorem chain_at {x : Nat} (h : Chain ls ts a (xs.drop k) c) (hx : xs[k]? = some x) : ∃ a', Ln ls ts x a a' ∧ Chain ls ts a' (xs.drop (k + 1)) c := by
  obtain ⟨hk, e⟩ := List.getElem?_eq_some_iff.1 hx
  rw [List.drop_eq_getElem_cons hk, e] at h
  exact h
theorem chain_end (h : Chain ls ts a (xs.drop xs.length) c) : a = c := by
  rw [List.drop_length] at h; exact h
theorem nodup_take {x : Nat} (h : xs.Nodup) (hx : xs[k]? = some x) : decide ((x : Int) ∈ (ofN xs).take k) = false := by
  rw [decide_eq_false_iff_not]
  intro hm
  obtain ⟨hk, e⟩ := List.getElem?_eq_some_iff.1 hx
  obtain ⟨i, hi, e2⟩ := List.getElem_of_mem hm
  rw [List.length_take] at hi
  rw [List.getElem_take] at e2
  have hi2 : i < xs.length := by omega
  have e3 : (xs[i]'hi2 : Int) = (x : Int) := by rw [← e2]; simp [ofN]
  have e4 : xs[i]'hi2 = xs[k]'hk := by rw [e]; omega
  have := (List.getElem_inj h).1 e4
  omega
end
end Go.Proofs.YtapbmpodimdkpaaDoor

/- Flows, plain facts: what a line carries, what comes to a bus; what comes in goes out. -/
namespace Go.Proofs.YtapbmpodimdkpaaDoor
open Go.RowKit

section
variable {bs : Int} {ls : List L3} {ts : List Bool} {us : List U2} {k o b j u v d : Nat} {ws wd : List Nat}
/-- A line of a way: what lies ahead of it, the bus that it feeds, the bus behind it. -/
theorem Way.split (h : Way ls ts us d wd) : k ∈ wd → ∃ xs b' o ws', wd = xs ++ k :: ws' ∧ Way ls ts us b' (k :: ws') ∧ Way ls ts us o ws' ∧ Ln ls ts k o b' ∧ Conn (edgesOn ls ts) b' d := by
  induction h with
  | feed hb => intro hk; cases hk
  | @step k' o' b' ws' hw hl hc ih =>
    intro hk
    by_cases e : k = k'
    · subst e
      exact ⟨[], b', o', ws', rfl, .step hw hl hc, hw, hl, Conn.refl _⟩
    · rcases List.mem_cons.1 hk with e2 | hk
      · exact absurd e2 e
      obtain ⟨xs, b2, o2, ws2, e1, h1, h2, h3, h4⟩ := ih hk
      exact ⟨k' :: xs, b2, o2, ws2, by rw [e1]; rfl, h1, h2, h3, h4.trans hl.conn⟩
/-- A way has its end at one bus only. -/
theorem way_head (ha : Acyc ls ts) (ho : OneFeed (edgesOn ls ts) us) {ws' : List Nat} {b' : Nat} (h : Way ls ts us b (k :: ws)) (h' : Way ls ts us b' (k :: ws')) : b = b' := by
  have hb := h
  have hb' := h'
  cases h with
  | @step _ o1 _ _ hw hl hc =>
    cases h' with
    | @step _ o2 _ _ hw' hl' hc' =>
      rcases Ln.two hl hl' with ⟨_, e⟩ | ⟨e1, e2⟩
      · exact e.symm
      · subst e1 e2
        have e1 := Way.one ha ho hw' hb
        have e2 := Way.one ha ho hw hb'
        have := congrArg List.length e1
        have := congrArg List.length e2
        simp at *
        omega
/-- The line leads on from the bus, away from the feed. -/
def Outs (ls : List L3) (ts : List Bool) (us : List U2) (b k : Nat) : Prop := (∃ v, Ln ls ts k b v) ∧ (k : Int) ≠ hd1 (wayF ls ts us b)
/-- d is fed through b, or is b. -/
def Und (ls : List L3) (ts : List Bool) (us : List U2) (b d : Nat) : Prop := match wayF ls ts us b with
  | k :: _ => k ∈ wayF ls ts us d
  | [] => Conn (edgesOn ls ts) b d
theorem outs_way (ha : Acyc ls ts) (ho : OneFeed (edgesOn ls ts) us) (hk : Outs ls ts us b k) (hd : k ∈ wayF ls ts us d) : ∃ xs, wayF ls ts us d = xs ++ k :: wayF ls ts us b ∧ Conn (edgesOn ls ts) b d := by
  obtain ⟨⟨v, hl⟩, hne⟩ := hk
  obtain ⟨xs, b', o, ws', e, h1, h2, h3, h4⟩ := (wayF_fed ha ho hd).split hd
  rcases Ln.two hl h3 with ⟨e1, e2⟩ | ⟨e1, e2⟩
  · subst e1 e2
    rw [wayF_of ha ho h2]
    exact ⟨xs, e, h3.conn.trans h4⟩
  · subst e1 e2
    rw [wayF_of ha ho h1] at hne
    exact absurd rfl hne
theorem outs_und (ha : Acyc ls ts) (ho : OneFeed (edgesOn ls ts) us) (hk : Outs ls ts us b k) (hd : k ∈ wayF ls ts us d) : Und ls ts us b d ∧ d ≠ b := by
  obtain ⟨xs, e, hc⟩ := outs_way ha ho hk hd
  refine ⟨?_, fun e2 => ?_⟩
  · unfold Und
    cases hw : wayF ls ts us b with
    | nil => exact hc
    | cons p ws => rw [hw] at e; rw [e]; simp
  · subst e2
    have := congrArg List.length e
    simp at this
    omega
/-- Of two buses, one fed through the other: the line that leads there. -/
theorem way_last : ∀ {xs : List Nat} {d : Nat}, Way ls ts us d (xs ++ k :: ws) → ∃ b1 c, Way ls ts us b1 ws ∧ Ln ls ts k b1 c ∧ Way ls ts us c (k :: ws) ∧ Conn (edgesOn ls ts) b1 d
  | [], d, h => by
    have h2 := h
    cases h with
    | step hw hl hc => exact ⟨_, _, hw, hl, h2, hl.conn⟩
  | x :: xs, d, h => by
    cases h with
    | step hw hl hc =>
      obtain ⟨b1, c, h1, h2, h3, h4⟩ := way_last hw
      exact ⟨b1, c, h1, h2, h3, h4.trans hl.conn⟩
theorem way_base (ha : Acyc ls ts) (ho : OneFeed (edgesOn ls ts) us) {b1 : Nat} (h : Way ls ts us b ws) (h1 : Way ls ts us b1 ws) (hc : Conn (edgesOn ls ts) b b1) : b1 = b := by
  cases ws with
  | nil =>
    cases h with
    | feed hb => cases h1 with
      | feed hb1 => exact ho b1 b hb1 hb hc.symm
  | cons k ws => exact (way_head ha ho h h1).symm
theorem und_conn (ha : Acyc ls ts) (ho : OneFeed (edgesOn ls ts) us) (hb : Way ls ts us b (wayF ls ts us b)) (h : Und ls ts us b d) : Way ls ts us d (wayF ls ts us d) ∧ (∃ xs, wayF ls ts us d = xs ++ wayF ls ts us b) ∧ Conn (edgesOn ls ts) b d := by
  unfold Und at h
  cases hw : wayF ls ts us b with
  | nil =>
    rw [hw] at h hb
    cases hb with
    | feed hf => exact ⟨wayF_is ha ho ⟨b, hf, h⟩, ⟨_, (List.append_nil _).symm⟩, h⟩
  | cons p ws =>
    rw [hw] at h hb
    have hd := wayF_fed ha ho h
    obtain ⟨xs, b', o, ws', e, h1, h2, h3, h4⟩ := hd.split h
    have e2 := way_head ha ho hb h1
    subst e2
    have e3 := Way.one ha ho hb h1
    exact ⟨hd, ⟨xs, by rw [e, e3]⟩, h4⟩
theorem und_out (ha : Acyc ls ts) (ho : OneFeed (edgesOn ls ts) us) (hb : Way ls ts us b (wayF ls ts us b)) (h : Und ls ts us b d) (hne : d ≠ b) : ∃ k, Outs ls ts us b k ∧ k ∈ wayF ls ts us d ∧ ∀ j, Outs ls ts us b j → j ∈ wayF ls ts us d → j = k := by
  obtain ⟨hd, ⟨xs, e⟩, hc⟩ := und_conn ha ho hb h
  rcases List.eq_nil_or_concat xs with rfl | ⟨ys, k, rfl⟩
  · rw [List.nil_append] at e
    rw [e] at hd
    exact absurd (way_base ha ho hb hd hc) hne
  · rw [List.concat_eq_append, List.append_assoc] at e
    have e : wayF ls ts us d = ys ++ k :: wayF ls ts us b := e
    rw [e] at hd
    obtain ⟨b1, c, h1, h2, h3, h4⟩ := way_last hd
    have e2 := way_base ha ho hb h1 (hc.trans h4.symm)
    subst e2
    refine ⟨k, ⟨⟨c, h2⟩, fun e3 => ?_⟩, by rw [e]; simp, fun j hj hjd => ?_⟩
    · have hn := h3.nodup ha ho
      cases hw : wayF ls ts us b1 with
      | nil => rw [hw] at e3; simp only [hd1] at e3; omega
      | cons p ws =>
        rw [hw] at e3 hn
        simp only [hd1] at e3
        obtain rfl : k = p := by omega
        simp at hn
    · obtain ⟨zs, e3, _⟩ := outs_way ha ho hj hjd
      rw [e] at e3
      have e4 := (List.append_inj' e3 rfl).2
      injection e4 with e5
      exact e5.symm
theorem und_self (_ha : Acyc ls ts) (_ho : OneFeed (edgesOn ls ts) us) : Und ls ts us b b := by
  unfold Und
  cases hw : wayF ls ts us b with
  | nil => exact Conn.refl _
  | cons p ws => simp
/-- What is behind a line that leads on: its other end is fed by it. -/
theorem outs_end (ha : Acyc ls ts) (ho : OneFeed (edgesOn ls ts) us) (hb : Way ls ts us b (wayF ls ts us b)) (hl : Ln ls ts k b v) (hne : (k : Int) ≠ hd1 (wayF ls ts us b)) : Way ls ts us v (k :: wayF ls ts us b) ∧ wayF ls ts us v = k :: wayF ls ts us b := by
  have hk : k ∉ wayF ls ts us b := fun hm => by
    obtain ⟨xs, e, _⟩ := outs_way ha ho ⟨⟨v, hl⟩, hne⟩ hm
    have := congrArg List.length e
    simp at this
    omega
  have h2 : ∃ f, 0 < fd us f ∧ CW ls ts k f b := Classical.byContradiction fun hn => hk ((hb.mem ha ho k).2 fun f hf hc => hn ⟨f, hf, hc⟩)
  have hw := Way.step hb hl h2
  exact ⟨hw, wayF_of ha ho hw⟩
end

/-! Sums -/
theorem gsum_swap {c a : Nat → Bool} {B : Nat → Nat → Bool} {f : Nat → Int} {m : Nat} (h1 : ∀ d, c d = true → ∃ k, k < m ∧ a k = true ∧ B k d = true ∧ ∀ j, a j = true → B j d = true → j = k) (h0 : ∀ d, c d = false → ∀ k, a k = true → B k d = false) : ∀ nb : Nat, gsum a (fun k => gsum (B k) f nb) m = gsum c f nb
  | 0 => by
    show gsum a (fun _ => 0) m = 0
    exact gsum_zero a (fun _ _ => rfl) m
  | nb + 1 => by
    have ih := gsum_swap h1 h0 (f := f) nb
    show gsum a (fun k => gsum (B k) f nb + (if B k nb = true then f nb else 0)) m = gsum c f nb + _
    rw [gsum_add, ih, gsum_if a (fun k => B k nb) (fun _ => f nb)]
    congr 1
    cases hc : c nb
    · rw [if_neg (by decide)]
      refine (gsum_congr (q := fun _ => false) (g := fun _ => f nb) (fun k _ => ⟨?_, rfl⟩)).trans (gsum_zero _ (fun _ h => by cases h) m)
      cases ha : a k
      · rfl
      · rw [h0 nb hc k ha]; rfl
    · obtain ⟨k, hk, ha, hB, hu⟩ := h1 nb hc
      rw [if_pos rfl]
      have := gsum_one (a := k) (x := f nb) (c := fun _ => true) (q := fun j => a j && B j nb) (fun j => by
        by_cases e : j = k
        · subst e; simp [ha, hB]
        · have : (a j && B j nb) = false := by
            rw [Bool.eq_false_iff]; intro hh
            rw [Bool.and_eq_true] at hh
            exact e (hu j hh.1 hh.2)
          rw [this]; simp [e]) hk
      rw [this]; rfl
theorem gsum_out {p : Nat → Bool} {f : Nat → Int} {b : Nat} (hp : p b = true) : ∀ {n : Nat}, b < n → gsum p f n = f b + gsum (fun c => p c && !(c == b)) f n
  | 0, h => absurd h (by omega)
  | n + 1, h => by
    by_cases e : b = n
    · subst e
      rw [gsum_yes hp, gsum_no (by simp), gsum_congr (q := fun c => p c && !(c == b)) (g := f) (fun c hc => ⟨by simp; omega, rfl⟩)]
      omega
    · have ih := gsum_out (f := f) hp (n := n) (by omega)
      rw [gsum, gsum, ih]
      have : (p n && !(n == b)) = p n := by simp; omega
      rw [this]
      omega
theorem gsum_in {p q : Nat → Bool} {f : Nat → Int} {k n : Nat} (hk : k < n) (hp : p k = false) (hq : ∀ j, q j = (p j || j == k)) : gsum q f n = gsum p f n + f k := by
  rw [gsum_out (b := k) (by rw [hq]; simp) hk, Int.add_comm]
  congr 1
  refine gsum_congr fun j _ => ⟨?_, rfl⟩
  show (q j && !(j == k)) = p j
  rw [hq]
  by_cases e : j = k
  · subst e; rw [hp]; simp
  · rw [show (j == k) = false by simpa using e]; simp

/-! What lines carry -/
noncomputable def wB (ls : List L3) (ts : List Bool) (us : List U2) (k b : Nat) : Bool := decide (k ∈ wayF ls ts us b)
/-- What line k carries. -/
noncomputable def flo (ls : List L3) (ts : List Bool) (us : List U2) (nb k : Nat) : Int := gsum (wB ls ts us k) (ld us) nb
noncomputable def undB (ls : List L3) (ts : List Bool) (us : List U2) (b d : Nat) : Bool := @decide (Und ls ts us b d) (Classical.propDecidable _)
theorem undB_iff {ls : List L3} {ts : List Bool} {us : List U2} {b d : Nat} : undB ls ts us b d = true ↔ Und ls ts us b d := by unfold undB; exact @decide_eq_true_iff _ (Classical.propDecidable _)
noncomputable def outB (ls : List L3) (ts : List Bool) (us : List U2) (b k : Nat) : Bool := @decide (Outs ls ts us b k) (Classical.propDecidable _)
theorem outB_iff {ls : List L3} {ts : List Bool} {us : List U2} {b k : Nat} : outB ls ts us b k = true ↔ Outs ls ts us b k := by unfold outB; exact @decide_eq_true_iff _ (Classical.propDecidable _)
/-- What comes to a bus that is fed. -/
noncomputable def inF (ls : List L3) (ts : List Bool) (us : List U2) (nb b : Nat) : Int := gsum (undB ls ts us b) (ld us) nb
section
variable {bs : Int} {ls : List L3} {ts : List Bool} {us : List U2} {k o b j u v d nb m : Nat} {ws wd : List Nat}
theorem inF_line (hw : wayF ls ts us b = k :: ws) : inF ls ts us nb b = flo ls ts us nb k := by
  refine gsum_congr fun d _ => ⟨?_, rfl⟩
  rw [Bool.eq_iff_iff, undB_iff, wB, decide_eq_true_eq, Und, hw]
theorem inF_feed (hw : wayF ls ts us b = []) : inF ls ts us nb b = isum (edgesOn ls ts) nb (ld us) b := by
  refine gsum_congr fun d _ => ⟨?_, rfl⟩
  rw [Bool.eq_iff_iff, undB_iff, connB_iff, Und, hw]
/-- P5: what comes in goes out. -/
theorem kirch (ha : Acyc ls ts) (ho : OneFeed (edgesOn ls ts) us) (hb : Way ls ts us b (wayF ls ts us b)) (hn : b < nb) (hm : ts.length ≤ m) : inF ls ts us nb b = ld us b + gsum (outB ls ts us b) (flo ls ts us nb) m := by
  rw [inF, gsum_out (b := b) (undB_iff.2 (und_self ha ho)) hn]
  congr 1
  refine (gsum_swap (fun d hd => ?_) (fun d hd k hk => ?_) nb).symm
  · rw [Bool.and_eq_true, undB_iff, Bool.not_eq_true', beq_eq_false_iff_ne] at hd
    obtain ⟨k, h1, h2, h3⟩ := und_out ha ho hb hd.1 hd.2
    obtain ⟨⟨v, hl⟩, _⟩ := id h1
    exact ⟨k, Nat.lt_of_lt_of_le hl.len hm, outB_iff.2 h1, by simpa [wB] using h2, fun j hj hjd => h3 j (outB_iff.1 hj) (by simpa [wB] using hjd)⟩
  · rw [wB, decide_eq_false_iff_not]
    intro hkd
    obtain ⟨h1, h2⟩ := outs_und ha ho (outB_iff.1 hk) hkd
    rw [undB_iff.2 h1, Bool.true_and, Bool.not_eq_false', beq_iff_eq] at hd
    exact h2 hd
theorem flo_bd {ls' : List L3} (hb : busesOk bs ls' us = true) (hn : nb ≤ 8) (k : Nat) : 0 ≤ flo ls ts us nb k ∧ flo ls ts us nb k ≤ 7992 := by
  have := gsum_bd (p := wB ls ts us k) (f := ld us) (M := 999) (k := nb) (fun c _ => ld_bd hb c)
  unfold flo; omega
theorem inF_bd {ls' : List L3} (hb : busesOk bs ls' us = true) (hn : nb ≤ 8) (b : Nat) : 0 ≤ inF ls ts us nb b ∧ inF ls ts us nb b ≤ 7992 := by
  have := gsum_bd (p := undB ls ts us b) (f := ld us) (M := 999) (k := nb) (fun c _ => ld_bd hb c)
  unfold inF; omega
theorem fsum_bd {ls' : List L3} (hb : busesOk bs ls' us = true) (hn : nb ≤ 8) (p : Nat → Bool) {m : Nat} (hm : m ≤ 10) : 0 ≤ gsum p (flo ls ts us nb) m ∧ gsum p (flo ls ts us nb) m ≤ 79920 := by
  have := gsum_bd (p := p) (f := flo ls ts us nb) (M := 7992) (k := m) (fun c _ => flo_bd hb hn c)
  omega
/-- A line that no bus has first carries nothing. -/
theorem flo_none (ha : Acyc ls ts) (ho : OneFeed (edgesOn ls ts) us) (h : ∀ c ws, Way ls ts us c (k :: ws) → False) : flo ls ts us nb k = 0 := by
  refine gsum_zero _ (fun d hd => ?_) nb
  rw [wB, decide_eq_true_eq] at hd
  obtain ⟨_, b', _, ws', _, h1, _⟩ := (wayF_fed ha ho hd).split hd
  exact (h b' ws' h1).elim
end
end Go.Proofs.YtapbmpodimdkpaaDoor

/- Flows, plain facts: one pass over all buses that are fed, from the ends to the feeds. -/
namespace Go.Proofs.YtapbmpodimdkpaaDoor
open Go.RowKit

/-- Line k leads from b to one of the buses that are done. -/
noncomputable def doneB (ls : List L3) (ts : List Bool) (us : List U2) (pre : List Nat) (b k : Nat) : Bool := @decide (∃ c ∈ pre, Ln ls ts k b c ∧ ∃ ws, wayF ls ts us c = k :: ws) (Classical.propDecidable _)
theorem doneB_iff {ls : List L3} {ts : List Bool} {us : List U2} {pre : List Nat} {b k : Nat} : doneB ls ts us pre b k = true ↔ ∃ c ∈ pre, Ln ls ts k b c ∧ ∃ ws, wayF ls ts us c = k :: ws := by unfold doneB; exact @decide_eq_true_iff _ (Classical.propDecidable _)
noncomputable def lineB (ls : List L3) (ts : List Bool) (us : List U2) (pre : List Nat) (k : Nat) : Bool := @decide (∃ c ∈ pre, ∃ ws, wayF ls ts us c = k :: ws) (Classical.propDecidable _)
theorem lineB_iff {ls : List L3} {ts : List Bool} {us : List U2} {pre : List Nat} {k : Nat} : lineB ls ts us pre k = true ↔ ∃ c ∈ pre, ∃ ws, wayF ls ts us c = k :: ws := by unfold lineB; exact @decide_eq_true_iff _ (Classical.propDecidable _)
/-- When the buses of pre are done: what has come to the others, what lines carry, what feeds give. -/
structure Vals (ls : List L3) (ts : List Bool) (us : List U2) (nb m : Nat) (pre : List Nat) (wl fl fb : List Int) : Prop where
  wa : ∀ b, b < nb → b ∉ pre → wl[b]? = some (gsum (doneB ls ts us pre b) (flo ls ts us nb) m)
  li : ∀ k, k < m → fl[k]? = some (if lineB ls ts us pre k = true then flo ls ts us nb k else 0)
  gi : ∀ b, b < nb → fb[b]? = some (if b ∈ pre ∧ wayF ls ts us b = [] then isum (edgesOn ls ts) nb (ld us) b else 0)
section
variable {bs : Int} {ls : List L3} {ts : List Bool} {us : List U2} {k o b x nb m : Nat} {ws zs pre : List Nat} {wl fl fb : List Int}
theorem vals_start : Vals ls ts us nb m [] (List.replicate nb 0) (List.replicate m 0) (List.replicate nb 0) := by
  refine ⟨fun b hb _ => ?_, fun k hk => ?_, fun b hb => ?_⟩
  · rw [List.getElem?_replicate, if_pos hb]
    congr 1
    refine ((gsum_congr (q := fun _ => false) (g := flo ls ts us nb) (fun k _ => ⟨?_, rfl⟩)).trans (gsum_zero _ (fun _ h => by cases h) m)).symm
    rw [Bool.eq_false_iff]; intro h
    obtain ⟨c, hc, _⟩ := doneB_iff.1 h
    cases hc
  · rw [List.getElem?_replicate, if_pos hk, if_neg]
    intro h
    obtain ⟨c, hc, _⟩ := lineB_iff.1 h
    cases hc
  · rw [List.getElem?_replicate, if_pos hb, if_neg]
    rintro ⟨h, _⟩
    cases h
/-- The next one: not done, fed; all that are fed through it are done. -/
theorem ord_next (h : Ord ls ts us zs) (hp : pre ++ [x] <+: zs.reverse) : x ∈ zs ∧ x ∉ pre ∧ ∀ v k, Ln ls ts k x v → (∃ ws, wayF ls ts us v = k :: ws) → v ∈ zs → v ∈ pre := by
  obtain ⟨rest, hr⟩ := hp
  have e : zs = rest.reverse ++ x :: pre.reverse := by
    rw [← List.reverse_reverse zs, ← hr]
    simp
  have hnd := h.nd
  rw [e] at hnd
  have h1 : x ∉ pre := fun hm => by
    have := (List.nodup_append.1 hnd).2.1
    rw [List.nodup_cons] at this
    exact this.1 (List.mem_reverse.2 hm)
  have h2 : x ∉ rest.reverse := fun hm => (List.nodup_append.1 hnd).2.2 x hm x (by simp) rfl
  refine ⟨by rw [e]; simp, h1, fun v k hl hw hv => ?_⟩
  obtain ⟨i, hi, ei⟩ := List.getElem_of_mem hv
  obtain ⟨ws, hw⟩ := hw
  have hx := h.pa i v k ws x (by rw [List.getElem?_eq_getElem hi, ei]) hw hl
  rcases Nat.lt_or_ge rest.reverse.length i with hlt | hge
  · have hi2 : zs[i]? = some v := by rw [List.getElem?_eq_getElem hi, ei]
    rw [e, List.getElem?_append_right (by omega)] at hi2
    rw [show i - rest.reverse.length = (i - rest.reverse.length - 1) + 1 by omega, List.getElem?_cons_succ] at hi2
    exact List.mem_reverse.1 (List.mem_of_getElem? hi2)
  · rw [e, List.take_append_of_le_length hge] at hx
    exact absurd (List.mem_of_mem_take hx) h2
/-- The one that it is fed through comes later. -/
theorem ord_par (h : Ord ls ts us zs) (hp : pre ++ [x] <+: zs.reverse) (hw : wayF ls ts us x = k :: ws) (hl : Ln ls ts k o x) : o ∉ pre := by
  obtain ⟨rest, hr⟩ := hp
  have e : zs = rest.reverse ++ x :: pre.reverse := by
    rw [← List.reverse_reverse zs, ← hr]
    simp
  have hnd := h.nd
  rw [e] at hnd
  have ho := h.pa rest.reverse.length x k ws o (by rw [e, List.getElem?_append_right (Nat.le_refl _), Nat.sub_self]; rfl) hw hl
  rw [e, List.take_append_of_le_length (Nat.le_refl _), List.take_length] at ho
  intro hm
  exact (List.nodup_append.1 hnd).2.2 o ho o (by simp [hm]) rfl
/-- What has come to the next one is all that its lines carry on. -/
theorem done_outs (hv : netOk bs ls = true) (ha : Acyc ls ts) (ho : OneFeed (edgesOn ls ts) us) (hz : Ord ls ts us zs) (hp : pre ++ [x] <+: zs.reverse) (hx : Way ls ts us x (wayF ls ts us x)) (k : Nat) : doneB ls ts us pre x k = outB ls ts us x k := by
  obtain ⟨hxz, hxp, hall⟩ := ord_next hz hp
  rw [Bool.eq_iff_iff, doneB_iff, outB_iff]
  constructor
  · rintro ⟨c, hc, hl, ws, hw⟩
    refine ⟨⟨c, hl⟩, fun e => ?_⟩
    obtain ⟨o, hl2, hwo, hwo2⟩ := wayF_cons ha ho hw
    have hne := hl.ne hv
    rcases Ln.two hl hl2 with ⟨e1, _⟩ | ⟨_, e1⟩
    · subst e1
      have hwc := wayF_fed ha ho (j := k) (b := c) (by rw [hw]; simp)
      have hnd := hwc.nodup ha ho
      rw [hw] at hnd
      cases hwx : wayF ls ts us o with
      | nil => rw [hwx] at e; simp only [hd1] at e; omega
      | cons p ps =>
        rw [hwx] at e
        simp only [hd1] at e
        obtain rfl : k = p := by omega
        rw [hwo2] at hwx
        rw [hwx] at hnd
        simp at hnd
    · exact absurd e1.symm hne
  · rintro ⟨⟨v, hl⟩, hne⟩
    obtain ⟨hw, hw2⟩ := outs_end ha ho hx hl hne
    refine ⟨v, hall v k hl ⟨_, hw2⟩ ((hz.me v).2 hw.fed), hl, _, hw2⟩
section
variable (hv : netOk bs ls = true) (ha : Acyc ls ts) (ho : OneFeed (edgesOn ls ts) us) (hz : Ord ls ts us zs) (hp : pre ++ [x] <+: zs.reverse) (hm : ts.length ≤ m) (hn : x < nb) (h : Vals ls ts us nb m pre wl fl fb)
include hv ha ho hz hp hm hn h
theorem vals_in : ∃ z, wl[x]? = some z ∧ z + ld us x = inF ls ts us nb x := by
  obtain ⟨hxz, hxp, _⟩ := ord_next hz hp
  have hx := wayF_is ha ho ((hz.me x).1 hxz)
  refine ⟨_, h.wa x hn hxp, ?_⟩
  rw [kirch ha ho hx hn hm, Int.add_comm]
  congr 1
  exact gsum_congr fun k _ => ⟨done_outs hv ha ho hz hp hx k, rfl⟩
end
theorem vals_feed (_hl1 : wl.length = nb) (hl3 : fb.length = nb) (hn : x < nb) (h : Vals ls ts us nb m pre wl fl fb) (hw : wayF ls ts us x = []) (z : Int) : Vals ls ts us nb m (pre ++ [x]) (wl.set x z) fl (fb.set x (isum (edgesOn ls ts) nb (ld us) x)) := by
  refine ⟨fun b hb hm => ?_, fun k hk => ?_, fun b hb => ?_⟩
  · rw [List.mem_append, not_or] at hm
    have hbx : b ≠ x := fun e => hm.2 (by simp [e])
    rw [List.getElem?_set_ne (fun e => hbx e.symm), h.wa b hb hm.1]
    congr 1
    refine gsum_congr fun k _ => ⟨?_, rfl⟩
    rw [Bool.eq_iff_iff, doneB_iff, doneB_iff]
    constructor
    · rintro ⟨c, hc, q⟩; exact ⟨c, List.mem_append_left _ hc, q⟩
    · rintro ⟨c, hc, q, ws, e⟩
      rcases List.mem_append.1 hc with hc | hc
      · exact ⟨c, hc, q, ws, e⟩
      · obtain rfl : c = x := by simpa using hc
        rw [hw] at e; cases e
  · rw [h.li k hk]
    have e : lineB ls ts us (pre ++ [x]) k = lineB ls ts us pre k := by
      rw [Bool.eq_iff_iff, lineB_iff, lineB_iff]
      constructor
      · rintro ⟨c, hc, ws, e⟩
        rcases List.mem_append.1 hc with hc | hc
        · exact ⟨c, hc, ws, e⟩
        · obtain rfl : c = x := by simpa using hc
          rw [hw] at e; cases e
      · rintro ⟨c, hc, q⟩; exact ⟨c, List.mem_append_left _ hc, q⟩
    rw [e]
  · by_cases e : b = x
    · subst e
      rw [List.getElem?_set_self (by omega), if_pos ⟨by simp, hw⟩]
    · rw [List.getElem?_set_ne (fun q => e q.symm), h.gi b hb]
      congr 1
      simp [List.mem_append, e]
theorem vals_line (ha : Acyc ls ts) (ho : OneFeed (edgesOn ls ts) us) (hv : netOk bs ls = true) (hx : Way ls ts us x (wayF ls ts us x)) (hxp : x ∉ pre) (hpre : ∀ c ∈ pre, ∃ f, 0 < fd us f ∧ Conn (edgesOn ls ts) f c)
    (hl1 : wl.length = nb) (hl2 : fl.length = m) (hon : o < nb) (hk : k < m) (h : Vals ls ts us nb m pre wl fl fb) (hw : wayF ls ts us x = k :: ws) (hl : Ln ls ts k o x) (z zo : Int) (hz : wl[o]? = some zo) :
    Vals ls ts us nb m (pre ++ [x]) ((wl.set x z).set o (zo + flo ls ts us nb k)) (fl.set k (flo ls ts us nb k)) fb := by
  have hox : o ≠ x := hl.ne hv
  have hkp : ∀ c ∈ pre, ∀ ws', wayF ls ts us c ≠ k :: ws' := fun c hc ws' e => by
    have h1 := wayF_is ha ho (hpre c hc)
    rw [e] at h1
    rw [hw] at hx
    have := way_head ha ho h1 hx
    subst this
    exact hxp hc
  refine ⟨fun b hb hm => ?_, fun j hj => ?_, fun b hb => ?_⟩
  · rw [List.mem_append, not_or] at hm
    have hbx : b ≠ x := fun e => hm.2 (by simp [e])
    by_cases e : b = o
    · subst e
      rw [List.getElem?_set_self (by rw [List.length_set]; omega)]
      have hwa := h.wa b hb hm.1
      rw [hz] at hwa
      injection hwa with hwa
      rw [hwa]
      congr 1
      refine (gsum_in (k := k) hk ?_ (fun j => ?_)).symm
      · rw [Bool.eq_false_iff]; intro hd
        obtain ⟨c, hc, _, ws', e⟩ := doneB_iff.1 hd
        exact hkp c hc ws' e
      · rw [Bool.eq_iff_iff, Bool.or_eq_true, beq_iff_eq, doneB_iff, doneB_iff]
        constructor
        · rintro ⟨c, hc, q, ws', e⟩
          rcases List.mem_append.1 hc with hc | hc
          · exact .inl ⟨c, hc, q, ws', e⟩
          · obtain rfl : c = x := by simpa using hc
            rw [hw] at e; injection e with e; exact .inr e.symm
        · rintro (⟨c, hc, q⟩ | rfl)
          · exact ⟨c, List.mem_append_left _ hc, q⟩
          · exact ⟨x, by simp, hl, ws, hw⟩
    · rw [List.getElem?_set_ne (fun q => e q.symm), List.getElem?_set_ne (fun e => hbx e.symm), h.wa b hb hm.1]
      congr 1
      refine gsum_congr fun j _ => ⟨?_, rfl⟩
      rw [Bool.eq_iff_iff, doneB_iff, doneB_iff]
      constructor
      · rintro ⟨c, hc, q⟩; exact ⟨c, List.mem_append_left _ hc, q⟩
      · rintro ⟨c, hc, q, ws', e2⟩
        rcases List.mem_append.1 hc with hc | hc
        · exact ⟨c, hc, q, ws', e2⟩
        · obtain rfl : c = x := by simpa using hc
          rw [hw] at e2; injection e2 with e2; subst e2
          rcases Ln.two hl q with ⟨e3, _⟩ | ⟨e3, _⟩
          · exact absurd e3 e
          · exact absurd e3 hbx
  · by_cases e : j = k
    · subst e
      rw [List.getElem?_set_self (by omega), if_pos (lineB_iff.2 ⟨x, by simp, ws, hw⟩)]
    · rw [List.getElem?_set_ne (fun q => e q.symm), h.li j hj]
      have e2 : lineB ls ts us (pre ++ [x]) j = lineB ls ts us pre j := by
        rw [Bool.eq_iff_iff, lineB_iff, lineB_iff]
        constructor
        · rintro ⟨c, hc, ws', e2⟩
          rcases List.mem_append.1 hc with hc | hc
          · exact ⟨c, hc, ws', e2⟩
          · obtain rfl : c = x := by simpa using hc
            rw [hw] at e2; injection e2 with e2; exact absurd e2.symm e
        · rintro ⟨c, hc, q⟩; exact ⟨c, List.mem_append_left _ hc, q⟩
      rw [e2]
  · rw [h.gi b hb]
    congr 1
    have : (b ∈ pre ++ [x] ∧ wayF ls ts us b = []) ↔ (b ∈ pre ∧ wayF ls ts us b = []) := by
      constructor
      · rintro ⟨h1, h2⟩
        rcases List.mem_append.1 h1 with h1 | h1
        · exact ⟨h1, h2⟩
        · obtain rfl : b = x := by simpa using h1
          rw [hw] at h2; cases h2
      · rintro ⟨h1, h2⟩; exact ⟨List.mem_append_left _ h1, h2⟩
    simp only [this]
/-- One bus of the pass, as the program reckons it: a feed. -/
theorem step_feed (hbu : busesOk bs ls us = true) (hnb : nb ≤ 8) (ha : Acyc ls ts) (ho : OneFeed (edgesOn ls ts) us) (hz : Ord ls ts us zs) (hm : ts.length ≤ m) (hn : x < nb) (hl1 : wl.length = nb) (hl3 : fb.length = nb) (hw : wayF ls ts us x = []) {zx z1 : Int} (hx : wl[x]? = some zx) (h1 : z1 = IntKind.i64.wrap (zx + ld us x))
    (h : pre <+: zs.reverse → Vals ls ts us nb m pre wl fl fb) : pre ++ [x] <+: zs.reverse → Vals ls ts us nb m (pre ++ [x]) (wl.set x z1) fl (fb.set x z1) := by
  intro hp
  have hV := h ((List.prefix_append pre [x]).trans hp)
  obtain ⟨z, hz2, he⟩ := vals_in (busesOk_net hbu) ha ho hz hp hm hn hV
  rw [hx] at hz2; injection hz2 with hz2; subst hz2
  have hb := inF_bd (ls := ls) (ts := ts) hbu hnb x
  rw [he, IntWalk.i64_in _ (by omega), inF_feed hw] at h1
  rw [h1]
  exact vals_feed hl1 hl3 hn hV hw _
/-- .. a bus that a line feeds. -/
theorem step_line (hbu : busesOk bs ls us = true) (hnb : nb ≤ 8) (hm10 : m ≤ 10) (ha : Acyc ls ts) (ho : OneFeed (edgesOn ls ts) us) (hz : Ord ls ts us zs) (hm : ts.length ≤ m) (hn : x < nb) (hon : o < nb) (hl1 : wl.length = nb) (hl2 : fl.length = m) (hw : wayF ls ts us x = k :: ws) (hl : Ln ls ts k o x) {zx z1 zo z2 : Int} (hx : wl[x]? = some zx) (h1 : z1 = IntKind.i64.wrap (zx + ld us x)) (hzo : wl[o]? = some zo) (h2 : z2 = IntKind.i64.wrap (zo + z1))
    (h : pre <+: zs.reverse → Vals ls ts us nb m pre wl fl fb) : pre ++ [x] <+: zs.reverse → Vals ls ts us nb m (pre ++ [x]) ((wl.set x z1).set o z2) (fl.set k z1) fb := by
  intro hp
  have hpp := (List.prefix_append pre [x]).trans hp
  have hV := h hpp
  obtain ⟨hxz, hxp, _⟩ := ord_next hz hp
  have hop := ord_par hz hp hw hl
  obtain ⟨z, hz2, he⟩ := vals_in (busesOk_net hbu) ha ho hz hp hm hn hV
  rw [hx] at hz2; injection hz2 with hz2; subst hz2
  have hb := inF_bd (ls := ls) (ts := ts) hbu hnb x
  rw [he, IntWalk.i64_in _ (by omega), inF_line hw] at h1
  have hb2 := flo_bd (ls := ls) (ts := ts) hbu hnb k
  have hzo2 := hV.wa o hon hop
  rw [hzo] at hzo2; injection hzo2 with hzo2
  have hb3 := fsum_bd (ls := ls) (ts := ts) hbu hnb (doneB ls ts us pre o) hm10
  rw [h1, IntWalk.i64_in _ (by rw [hzo2]; omega)] at h2
  rw [h2, h1]
  exact vals_line ha ho (busesOk_net hbu) (wayF_is ha ho ((hz.me x).1 hxz)) hxp (fun c hc => (hz.me c).1 (List.mem_reverse.1 (hpp.subset hc))) hl1 hl2 hon (Nat.lt_of_lt_of_le hl.len hm) hV hw hl _ _ hzo
/-- What all lines carry; what all buses give. -/
noncomputable def floL (ls : List L3) (ts : List Bool) (us : List U2) (nb m : Nat) : List Int := (List.range m).map (flo ls ts us nb)
noncomputable def givF (ls : List L3) (ts : List Bool) (us : List U2) (nb b : Nat) : Int := if 0 < fd us b then isum (edgesOn ls ts) nb (ld us) b else 0
noncomputable def givL (ls : List L3) (ts : List Bool) (us : List U2) (nb : Nat) : List Int := (List.range nb).map (givF ls ts us nb)
theorem floL_get (hk : k < m) : (floL ls ts us nb m)[k]? = some (flo ls ts us nb k) := by rw [floL, List.getElem?_map, List.getElem?_range hk]; rfl
theorem floL_len : (floL ls ts us nb m).length = m := by simp [floL]
theorem givL_get (hk : k < nb) : (givL ls ts us nb)[k]? = some (givF ls ts us nb k) := by rw [givL, List.getElem?_map, List.getElem?_range hk]; rfl
theorem givL_len : (givL ls ts us nb).length = nb := by simp [givL]
theorem vals_end (ha : Acyc ls ts) (ho : OneFeed (edgesOn ls ts) us) (hz : Ord ls ts us zs) (hl2 : fl.length = m) (hl3 : fb.length = nb) (h : Vals ls ts us nb m zs.reverse wl fl fb) : fl = floL ls ts us nb m ∧ fb = givL ls ts us nb := by
  constructor
  · apply List.ext_getElem?
    intro k
    rcases Nat.lt_or_ge k m with hk | hk
    · rw [floL_get hk, h.li k hk]
      congr 1
      split
      · rfl
      · rename_i hn
        refine (flo_none ha ho fun c ws hc => hn (lineB_iff.2 ⟨c, ?_, ws, wayF_of ha ho hc⟩)).symm
        rw [List.mem_reverse]
        exact (hz.me c).2 hc.fed
    · rw [List.getElem?_eq_none (by omega), List.getElem?_eq_none (by rw [floL_len]; exact hk)]
  · apply List.ext_getElem?
    intro b
    rcases Nat.lt_or_ge b nb with hb | hb
    · rw [givL_get hb, h.gi b hb]
      congr 1
      have : (b ∈ zs.reverse ∧ wayF ls ts us b = []) ↔ 0 < fd us b := by
        rw [List.mem_reverse, hz.me]
        constructor
        · rintro ⟨h1, h2⟩
          have hw := wayF_is ha ho h1
          rw [h2] at hw
          cases hw with
          | feed hf => exact hf
        · intro hf
          exact ⟨⟨b, hf, Conn.refl _⟩, wayF_of ha ho (.feed hf)⟩
      simp only [this, givF]
    · rw [List.getElem?_eq_none (by omega), List.getElem?_eq_none (by rw [givL_len]; exact hb)]
end

/-! The answers of chapter 7 -/
def mostOf (ls : List L3) (k : Nat) : Int := (ls.getD k (0, 0, 0)).2.2
noncomputable def lflF (bs : Int) (ls : List L3) (ts : List Bool) (us : List U2) (line : Int) : Int := if radF bs ls ts us = true ∧ inB line 0 ((ts.length : Int) - 1) = true then flo ls ts us bs.toNat line.toNat else -1
noncomputable def fflF (bs : Int) (ls : List L3) (ts : List Bool) (us : List U2) (bus : Int) : Int := if radF bs ls ts us = true ∧ inB bus 0 (bs - 1) = true then givF ls ts us bs.toNat bus.toNat else -1
noncomputable def ovB (ls : List L3) (ts : List Bool) (us : List U2) (nb k : Nat) : Bool := decide (mostOf ls k < flo ls ts us nb k)
noncomputable def ovTo (ls : List L3) (ts : List Bool) (us : List U2) (nb k : Nat) : List Nat := (List.range k).filter (ovB ls ts us nb)
noncomputable def ovlF (bs : Int) (ls : List L3) (ts : List Bool) (us : List U2) : List Int := if radF bs ls ts us = true then ofN (ovTo ls ts us bs.toNat ts.length) else []
/-- Each of the first k feeds has enough. -/
def EnoughTo (ls : List L3) (ts : List Bool) (us : List U2) (nb k : Nat) : Prop := ∀ b, b < k → 0 < fd us b → isum (edgesOn ls ts) nb (ld us) b ≤ fd us b
noncomputable def godF (bs : Int) (ls : List L3) (ts : List Bool) (us : List U2) : Bool := radF bs ls ts us && decide ((ovlF bs ls ts us).length = 0) && @decide (EnoughTo ls ts us bs.toNat bs.toNat) (Classical.propDecidable _)
theorem godF_iff {bs : Int} {ls : List L3} {ts : List Bool} {us : List U2} : godF bs ls ts us = true ↔ radF bs ls ts us = true ∧ (ovlF bs ls ts us).length = 0 ∧ EnoughTo ls ts us bs.toNat bs.toNat := by
  rw [godF, Bool.and_eq_true, Bool.and_eq_true, decide_eq_true_eq, @decide_eq_true_iff _ (Classical.propDecidable _), and_assoc]
theorem ovTo_next (ls : List L3) (ts : List Bool) (us : List U2) (nb k : Nat) : ofN (ovTo ls ts us nb (k + 1)) = ofN (ovTo ls ts us nb k) ++ (if mostOf ls k < flo ls ts us nb k then [(k : Int)] else []) := by
  unfold ovTo
  by_cases h : mostOf ls k < flo ls ts us nb k
  · rw [filter_yes (by simpa [ovB] using h), if_pos h]; simp [ofN]
  · rw [filter_no (by simpa [ovB] using h), if_neg h]; simp
theorem ovTo_len (ls : List L3) (ts : List Bool) (us : List U2) (nb k : Nat) : (ovTo ls ts us nb k).length ≤ k := Nat.le_trans (List.length_filter_le _ _) (by simp)
theorem mostOf_at {ls : List L3} {k : Nat} {l : L3} (h : ls[k]? = some l) : mostOf ls k = l.2.2 := by rw [mostOf, List.getD_eq_getElem?_getD, h]; rfl
end Go.Proofs.YtapbmpodimdkpaaDoor

/- Plain facts that the promises of chapter 7 ask for. -/
namespace Go.Proofs.YtapbmpodimdkpaaDoor
open Go.RowKit

section
variable {bs : Int} {ls : List L3} {ts : List Bool} {us : List U2} {k o b j u v nb m : Nat} {ws : List Nat}
/-! P5: what comes in goes out -/
/-- What a line at a bus carries on. -/
noncomputable def flQ (ls : List L3) (ts : List Bool) (us : List U2) (nb b k : Nat) : Int := if ts[k]? = some true ∧ (k : Int) ≠ hd1 (wayF ls ts us b) then flo ls ts us nb k else 0
def latB (ls : List L3) (b : Nat) : List Nat := (List.range ls.length).filter fun j => endsB (ls.getD j (0, 0, 0)) (b : Int)
theorem outs_at (hs : stOk bs ls ts.length = true) (hk : k < ls.length) : outB ls ts us b k = (endsB (ls.getD k (0, 0, 0)) (b : Int) && decide (ts[k]? = some true ∧ (k : Int) ≠ hd1 (wayF ls ts us b))) := by
  have e : ls[k]? = some (ls.getD k (0, 0, 0)) := by rw [List.getD_eq_getElem?_getD, List.getElem?_eq_getElem hk]; rfl
  generalize ls.getD k (0, 0, 0) = l at e
  obtain ⟨a0, _, b0, _⟩ := line_in hs e
  rw [Bool.eq_iff_iff, Bool.and_eq_true, outB_iff, decide_eq_true_eq]
  simp only [endsB, Bool.or_eq_true, beq_iff_eq]
  constructor
  · rintro ⟨⟨v, l', h1, h2, h3⟩, h4⟩
    rw [e] at h1; injection h1 with h1; subst h1
    exact ⟨by omega, h2, h4⟩
  · rintro ⟨h1, h2, h3⟩
    refine ⟨?_, h3⟩
    rcases h1 with h1 | h1
    · exact ⟨l.2.1.toNat, l, e, h2, .inl ⟨by omega, rfl⟩⟩
    · exact ⟨l.1.toNat, l, e, h2, .inr ⟨by omega, rfl⟩⟩
theorem lat_sum (hs : stOk bs ls ts.length = true) : lsum (flQ ls ts us nb b) (latB ls b) (latB ls b).length = gsum (outB ls ts us b) (flo ls ts us nb) ls.length := by
  rw [lsum_all, latB, filter_gsum]
  have := gsum_if (fun j => endsB (ls.getD j (0, 0, 0)) (b : Int)) (fun k => decide (ts[k]? = some true ∧ (k : Int) ≠ hd1 (wayF ls ts us b))) (flo ls ts us nb) ls.length
  have e : gsum (fun j => endsB (ls.getD j (0, 0, 0)) (b : Int)) (flQ ls ts us nb b) ls.length = gsum (fun j => endsB (ls.getD j (0, 0, 0)) (b : Int)) (fun k => if decide (ts[k]? = some true ∧ (k : Int) ≠ hd1 (wayF ls ts us b)) = true then flo ls ts us nb k else 0) ls.length :=
    gsum_congr fun k _ => ⟨rfl, by simp only [flQ, decide_eq_true_eq]⟩
  rw [e, this]
  exact gsum_congr fun k hk => ⟨(outs_at hs hk).symm, rfl⟩
theorem flQ_bd {ls' : List L3} (hb : busesOk bs ls' us = true) (hn : nb ≤ 8) (k : Nat) : 0 ≤ flQ ls ts us nb b k ∧ flQ ls ts us nb b k ≤ 7992 := by
  have := flo_bd (ls := ls) (ts := ts) hb hn k
  unfold flQ; split <;> omega
/-- What a bus wants, and what its lines carry on. -/
noncomputable def wantF (ls : List L3) (ts : List Bool) (us : List U2) (nb b : Nat) : Int := ld us b + lsum (flQ ls ts us nb b) (latB ls b) (latB ls b).length
theorem want_in (h : radF (nb : Int) ls ts us = true) (hb : b < nb) (hf : ∃ f, 0 < fd us f ∧ Conn (edgesOn ls ts) f b) : inF ls ts us nb b = wantF ls ts us nb b := by
  obtain ⟨h1, ha, ho⟩ := radF_iff.1 h
  have hs := okU_st h1
  have hl := stOk_len hs
  rw [wantF, lat_sum hs]
  exact kirch ha ho (wayF_is ha ho hf) hb (by omega)
/-- P5, as the law asks it: of a bus that is not fed nothing; a feed gives what it wants; the line of any other bus carries it. -/
theorem flow_law (h : radF (nb : Int) ls ts us = true) (hb : b < nb) :
    fbyF nb ls ts us b = -1 ∨ (fbyF nb ls ts us b = (b : Int) ∧ fflF nb ls ts us b = wantF ls ts us nb b) ∨ (fbyF nb ls ts us b ≠ -1 ∧ fbyF nb ls ts us b ≠ (b : Int) ∧ lflF nb ls ts us (plnF nb ls ts us b) = wantF ls ts us nb b) := by
  obtain ⟨h1, ha, ho⟩ := radF_iff.1 h
  have hin : inB (b : Int) 0 ((nb : Int) - 1) = true := by simp [inB]; omega
  by_cases hx : fbyF nb ls ts us b < 0
  · exact .inl (fby_un hx).1
  · obtain ⟨f, c, e, hc, he, hr, hfl, hul, hf, hcf⟩ := fby_feed hx
    obtain rfl : b = c := by omega
    have hfed : ∃ f, 0 < fd us f ∧ Conn (edgesOn ls ts) f b := ⟨f, hf, hcf⟩
    have hw := wayF_is ha ho hfed
    have hi := want_in h hb hfed
    cases hwb : wayF ls ts us b with
    | nil =>
      rw [hwb] at hw
      cases hw with
      | feed hfb =>
        refine .inr (.inl ⟨by rw [fby_of h (by omega) hfb (Conn.refl _)], ?_⟩)
        rw [← hi, inF_feed hwb, fflF, if_pos ⟨h, hin⟩, Int.toNat_natCast, Int.toNat_natCast, givF, if_pos hfb]
    | cons p ps =>
      have hnf : ¬ 0 < fd us b := fun hfb => by
        have := wayF_of ha ho (.feed hfb)
        rw [hwb] at this; cases this
      refine .inr (.inr ⟨by omega, fun e2 => ?_, ?_⟩)
      · rw [he] at e2
        obtain rfl : f = b := by omega
        exact hnf hf
      · have hpl : plnF nb ls ts us b = (p : Int) := by rw [plnF, if_pos ⟨h, hin⟩, Int.toNat_natCast, hwb]; rfl
        have hpm := (wayF_on (j := p) (b := b) (by rw [hwb]; simp) ha ho).1
        rw [hpl, ← hi, inF_line hwb, lflF, if_pos ⟨h, by simp [inB]; omega⟩, Int.toNat_natCast, Int.toNat_natCast]
theorem lfl_at (h : radF (nb : Int) ls ts us = true) (hk : k < ts.length) : lflF nb ls ts us (k : Int) = flo ls ts us nb k := by
  rw [lflF, if_pos ⟨h, by simp [inB]; omega⟩, Int.toNat_natCast, Int.toNat_natCast]
theorem ffl_at (h : radF (nb : Int) ls ts us = true) (hb : b < nb) : fflF nb ls ts us (b : Int) = givF ls ts us nb b := by
  rw [fflF, if_pos ⟨h, by simp [inB]; omega⟩, Int.toNat_natCast, Int.toNat_natCast]
theorem lfl_bad {line : Int} (h : radF bs ls ts us = false) : lflF bs ls ts us line = -1 := by rw [lflF, if_neg (by rw [h]; simp)]
theorem ffl_bad {bus : Int} (h : radF bs ls ts us = false) : fflF bs ls ts us bus = -1 := by rw [fflF, if_neg (by rw [h]; simp)]
theorem ovl_bad (h : radF bs ls ts us = false) : ovlF bs ls ts us = [] := by rw [ovlF, if_neg (by rw [h]; simp)]
theorem lfl_nn {line : Int} (h : radF bs ls ts us = true) (h0 : 0 ≤ line) (h1 : line < ts.length) : 0 ≤ lflF bs ls ts us line := by
  have hb := okU_bu (radF_iff.1 h).1
  have hbs := okU_bs (radF_iff.1 h).1
  rw [lflF, if_pos ⟨h, by simp [inB]; omega⟩]
  exact (flo_bd hb (by omega) _).1

/-! P85: feeds give what is wanted where there is life -/
noncomputable def fedC (ls : List L3) (ts : List Bool) (us : List U2) (d : Nat) : Bool := fedB (edgesOn ls ts) us d
theorem give_all (h : radF (nb : Int) ls ts us = true) : gsum (fun _ => true) (givF ls ts us nb) nb = gsum (fedB (edgesOn ls ts) us) (ld us) nb := by
  obtain ⟨h1, ha, ho⟩ := radF_iff.1 h
  have hul : us.length = nb := by have := busesOk_len (okU_bu h1); omega
  have e := gsum_if (fun _ => true) (fun f => decide (0 < fd us f)) (fun f => gsum (connB (edgesOn ls ts) f) (ld us) nb) nb
  have e2 : gsum (fun _ => true) (givF ls ts us nb) nb = gsum (fun _ => true) (fun b => if decide (0 < fd us b) = true then gsum (connB (edgesOn ls ts) b) (ld us) nb else 0) nb :=
    gsum_congr fun b _ => ⟨rfl, by simp only [givF, isum, decide_eq_true_eq]⟩
  rw [e2, e]
  refine gsum_swap (fun d hd => ?_) (fun d hd k hk => ?_) nb
  · obtain ⟨f, hf, hc⟩ := fedB_iff.1 hd
    refine ⟨f, by have := fd_lt hf; omega, by simpa using hf, connB_iff.2 hc, fun j hj hjd => ?_⟩
    exact ho j f (by simpa using hj) hf ((connB_iff.1 hjd).trans hc.symm)
  · rw [Bool.eq_false_iff]
    intro hkd
    rw [fedB_iff.2 ⟨k, by simpa using hk, connB_iff.1 hkd⟩] at hd
    cases hd
theorem alive_fed (h : okU (nb : Int) ls ts.length us = true) (hb : b < nb) : decide ((b : Int) ∈ aliF nb ls ts us) = fedB (edgesOn ls ts) us b := by
  rw [Bool.eq_iff_iff, decide_eq_true_eq, fedB_iff]
  exact alive_iff h hb
/-- What has come together when k buses are looked at. -/
noncomputable def diffF (ls : List L3) (ts : List Bool) (us : List U2) (nb k : Nat) : Int := gsum (fun _ => true) (givF ls ts us nb) k - gsum (fedB (edgesOn ls ts) us) (ld us) k
theorem diff_end (h : radF (nb : Int) ls ts us = true) : diffF ls ts us nb nb = 0 := by rw [diffF, give_all h]; omega
theorem givF_bd {ls' : List L3} (hb : busesOk bs ls' us = true) (hn : nb ≤ 8) (k : Nat) : 0 ≤ givF ls ts us nb k ∧ givF ls ts us nb k ≤ 7992 := by
  have := isum_bd (es := edgesOn ls ts) (nb := nb) (f := ld us) (b := k) hn (ld_bd hb)
  unfold givF; split <;> omega
theorem diff_bd {ls' : List L3} (hb : busesOk bs ls' us = true) (hn : nb ≤ 8) {k : Nat} (hk : k ≤ 8) : -100000 ≤ diffF ls ts us nb k ∧ diffF ls ts us nb k ≤ 100000 := by
  have h1 := gsum_bd (p := fun _ => true) (f := givF ls ts us nb) (M := 7992) (k := k) (fun c _ => givF_bd hb hn c)
  have h2 := gsum_bd (p := fedB (edgesOn ls ts) us) (f := ld us) (M := 999) (k := k) (fun c _ => ld_bd hb c)
  unfold diffF; omega
theorem diff_next (k : Nat) : diffF ls ts us nb (k + 1) = diffF ls ts us nb k + givF ls ts us nb k - (if fedB (edgesOn ls ts) us k = true then ld us k else 0) := by
  unfold diffF
  rw [gsum_yes rfl, gsum]
  omega

/-! With a line off -/
theorem way_off (h : Way ls (ts.set j false) us b ws) : Way ls ts us b ws := by
  induction h with
  | feed hb => exact .feed hb
  | step _ hl hc ih =>
    obtain ⟨f, hf, hc⟩ := hc
    refine .step ih (ln_off hl).1 ⟨f, hf, ?_⟩
    refine Conn.mono hc fun x y hxy => ?_
    obtain ⟨i, hi, hl2⟩ := adj_cw.1 hxy
    exact adj_cw.2 ⟨i, hi, (ln_off hl2).1⟩
theorem flo_off (h : radF (nb : Int) ls ts us = true) (j k : Nat) : flo ls (ts.set j false) us nb k ≤ flo ls ts us nb k := by
  obtain ⟨h1, ha, ho⟩ := radF_iff.1 h
  obtain ⟨_, ha2, ho2⟩ := radF_iff.1 (radF_off h j)
  refine gsum_le (fun b _ => (ld_bd (okU_bu h1) b).1) (fun b _ hb => ?_)
  rw [wB, decide_eq_true_eq] at hb ⊢
  rw [wayF_of ha ho (way_off (wayF_fed ha2 ho2 hb))]
  exact hb
theorem mem_ovl (h : radF (nb : Int) ls ts us = true) {z : Int} : z ∈ ovlF nb ls ts us ↔ ∃ k : Nat, z = (k : Int) ∧ k < ts.length ∧ mostOf ls k < flo ls ts us nb k := by
  rw [ovlF, if_pos h, ofN_mem]
  constructor
  · rintro ⟨k, hk, rfl⟩
    rw [ovTo, List.mem_filter, List.mem_range] at hk
    exact ⟨k, rfl, hk.1, by simpa [ovB] using hk.2⟩
  · rintro ⟨k, rfl, h1, h2⟩
    exact ⟨k, by rw [ovTo, List.mem_filter, List.mem_range]; exact ⟨h1, by simpa [ovB] using h2⟩, rfl⟩
theorem ovl_has (h : radF (nb : Int) ls ts us = true) (hk : k < ts.length) : decide ((k : Int) ∈ ovlF nb ls ts us) = decide (mostOf ls k < flo ls ts us nb k) := by
  rw [decide_eq_decide, mem_ovl h]
  constructor
  · rintro ⟨k', e, _, h2⟩
    obtain rfl : k = k' := by omega
    exact h2
  · exact fun h2 => ⟨k, rfl, hk, h2⟩
/-- P86: with a line off there are no others. -/
theorem ovl_off (h : radF (nb : Int) ls ts us = true) (j : Nat) : ∀ z ∈ ovlF nb ls (ts.set j false) us, z ∈ ovlF nb ls ts us := by
  intro z hz
  obtain ⟨k, rfl, hk, h2⟩ := (mem_ovl (radF_off h j)).1 hz
  rw [List.length_set] at hk
  exact (mem_ovl h).2 ⟨k, rfl, hk, Int.lt_of_lt_of_le h2 (flo_off h j k)⟩
theorem ovl_asc : ∀ (k : Nat) (x y : Int), (ovlF bs ls ts us)[k]? = some x → (ovlF bs ls ts us)[k + 1]? = some y → x < y := by
  intro k x y hx hy
  rw [ovlF] at hx hy
  split at hx
  · rename_i hc
    rw [if_pos hc] at hy
    exact filter_asc _ _ hx hy
  · simp at hx
/-- P6: good networks stay good with fewer lines. -/
theorem god_off (h : godF (nb : Int) ls ts us = true) (j : Nat) : godF (nb : Int) ls (ts.set j false) us = true := by
  obtain ⟨h1, h2, h3⟩ := godF_iff.1 h
  refine godF_iff.2 ⟨radF_off h1 j, ?_, fun b hb hf => ?_⟩
  · rcases Nat.eq_zero_or_pos (ovlF nb ls (ts.set j false) us).length with h0 | h0
    · exact h0
    · obtain ⟨z, hz⟩ := List.exists_mem_of_length_pos h0
      have := List.length_pos_of_mem (ovl_off h1 j z hz)
      omega
  · refine Int.le_trans ?_ (h3 b hb hf)
    refine gsum_le (fun c _ => (ld_bd (okU_bu (radF_iff.1 h1).1) c).1) (fun c _ hc => connB_iff.2 ?_)
    exact CW.conn (k := j) (connB_iff.1 hc)
/-- P6: all loads of buses that are alive are served. -/
theorem god_ser (h : godF (nb : Int) ls ts us = true) : serF nb ls ts us = gsum (fedB (edgesOn ls ts) us) (ld us) nb := by
  obtain ⟨h1, _, h3⟩ := godF_iff.1 h
  obtain ⟨hok, ha, ho⟩ := radF_iff.1 h1
  have hbu := okU_bu hok
  have hul : us.length = nb := by have := busesOk_len hbu; omega
  rw [serF, if_pos hok]
  rw [Int.toNat_natCast] at h3 ⊢
  have e1 := gsum_if (fun _ => true) (serB (edgesOn ls ts) nb us) (ld us) nb
  have e2 := gsum_if (fun _ => true) (fedB (edgesOn ls ts) us) (ld us) nb
  have a1 : gsum (serB (edgesOn ls ts) nb us) (ld us) nb = gsum (fun b => (fun _ => true) b && serB (edgesOn ls ts) nb us b) (ld us) nb := gsum_congr fun b _ => ⟨by simp, rfl⟩
  have a2 : gsum (fedB (edgesOn ls ts) us) (ld us) nb = gsum (fun b => (fun _ => true) b && fedB (edgesOn ls ts) us b) (ld us) nb := gsum_congr fun b _ => ⟨by simp, rfl⟩
  rw [a1, a2, ← e1, ← e2]
  refine gsum_congr fun b hb => ⟨rfl, ?_⟩
  cases hf : fedB (edgesOn ls ts) us b
  · have hz : isum (edgesOn ls ts) nb (fd us) b = 0 := gsum_zero _ (fun c hc => by
      have h4 := (fd_bd hbu c).1
      have h5 : ¬ 0 < fd us c := fun h5 => by
        rw [fedB_iff.2 ⟨c, h5, (connB_iff.1 hc).symm⟩] at hf; cases hf
      omega) _
    cases hs : serB (edgesOn ls ts) nb us b
    · rfl
    · rw [serB, decide_eq_true_eq, hz] at hs
      have h6 : ld us b ≤ isum (edgesOn ls ts) nb (ld us) b := gsum_ge (fun c => (ld_bd hbu c).1) hb (connB_iff.2 (Conn.refl _))
      have h7 := (ld_bd hbu b).1
      simp only [if_true, Bool.false_eq_true, if_false]
      omega
  · obtain ⟨f, h4, h5⟩ := fedB_iff.1 hf
    have h6 : serB (edgesOn ls ts) nb us b = true := by
      rw [serB, decide_eq_true_eq, ← isum_congr h5, ← isum_congr h5]
      refine Int.le_trans (h3 f (by have := fd_lt h4; omega) h4) ?_
      exact gsum_ge (fun c => (fd_bd hbu c).1) (by have := fd_lt h4; omega) (connB_iff.2 (Conn.refl _))
    rw [h6]
theorem fsum_al {ls' : List L3} (hb : busesOk bs ls' us = true) {p : Nat → Bool} {k : Nat} (hk : k ≤ 8) : 0 ≤ gsum p (ld us) k ∧ gsum p (ld us) k ≤ 7992 := by
  have := gsum_bd (p := p) (f := ld us) (M := 999) (k := k) (fun c _ => ld_bd hb c)
  omega
end
end Go.Proofs.YtapbmpodimdkpaaDoor
