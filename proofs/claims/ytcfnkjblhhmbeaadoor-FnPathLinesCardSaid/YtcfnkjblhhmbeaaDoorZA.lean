/- Plain facts on paths. -/
import Derived.Test.YtcfnkjblhhmbeaaDoorZ4
namespace Go.Proofs.YtcfnkjblhhmbeaaDoor
open Go.RowKit

/-- From a along the lines xs one comes to c. -/
def Chain (ls : List L3) (ts : List Bool) : Nat → List Nat → Nat → Prop
  | a, [], c => a = c
  | a, x :: xs, c => ∃ a', Ln ls ts x a a' ∧ Chain ls ts a' xs c
section
variable {bs : Int} {ls : List L3} {ts : List Bool} {us : List U2} {k o b j u v a c : Nat} {ws xs : List Nat}
theorem Chain.snoc : ∀ {xs : List Nat} {a : Nat}, Chain ls ts a xs o → Ln ls ts k o b → Chain ls ts a (xs ++ [k]) b
  | [], a, h, hl => by
    have e : a = o := h
    subst e
    exact ⟨b, hl, rfl⟩
  | x :: xs, a, h, hl => by
    obtain ⟨a', h1, h2⟩ := h
    exact ⟨a', h1, Chain.snoc h2 hl⟩
theorem Way.chain (h : Way ls ts us b ws) : ∃ f, 0 < fd us f ∧ Conn (edgesOn ls ts) f b ∧ Chain ls ts f ws.reverse b := by
  induction h with
  | feed hb => exact ⟨_, hb, Conn.refl _, rfl⟩
  | step _ hl _ ih =>
    obtain ⟨f, hf, hc, h2⟩ := ih
    refine ⟨f, hf, hc.trans hl.conn, ?_⟩
    rw [List.reverse_cons]
    exact h2.snoc hl
theorem other_ln (hs : stOk bs ls ts.length = true) (hl : Ln ls ts k o c) : otherF bs ls (k : Int) (c : Int) = (o : Int) := by
  have hv := stOk_net hs
  have hne := hl.ne hv
  obtain ⟨l, h1, h2, h3⟩ := hl
  obtain ⟨a0, a1, b0, b1⟩ := line_in hs h1
  have hk := (List.getElem?_eq_some_iff.1 h1).1
  have hg : ls.getD k (0, 0, 0) = l := by rw [List.getD_eq_getElem?_getD, h1]; rfl
  rw [otherF, if_pos ⟨hv, by omega, by omega⟩, Int.toNat_natCast, hg]
  rcases h3 with ⟨h3, h4⟩ | ⟨h3, h4⟩
  · rw [if_neg (by omega), if_pos (by omega)]; omega
  · rw [if_pos (by omega)]; omega
theorem pln_neg {bus : Int} (h : plnF bs ls ts us bus < 0) : plnF bs ls ts us bus = -1 ∧ patF bs ls ts us bus = [] := by
  rw [plnF] at h ⊢
  rw [patF]
  split at h
  · rename_i hc
    rw [if_pos hc, if_pos hc]
    cases hw : wayF ls ts us bus.toNat with
    | nil => exact ⟨rfl, rfl⟩
    | cons k ws => rw [hw] at h; simp only [hd1] at h; omega
  · rename_i hc
    rw [if_neg hc, if_neg hc]
    exact ⟨rfl, rfl⟩
theorem pln_pos {bus : Int} (h : ¬ plnF bs ls ts us bus < 0) : ∃ c k o : Nat, bus = (c : Int) ∧ plnF bs ls ts us bus = (k : Int) ∧ stOk bs ls ts.length = true ∧ k < ts.length ∧ ts[k]? = some true ∧ otherF bs ls (k : Int) bus = (o : Int) ∧ fbyF bs ls ts us (o : Int) = fbyF bs ls ts us bus ∧ patF bs ls ts us bus = patF bs ls ts us (o : Int) ++ [(k : Int)] := by
  rw [plnF] at h
  split at h
  · rename_i hc
    obtain ⟨hr, hb⟩ := hc
    obtain ⟨h1, ha, ho⟩ := radF_iff.1 hr
    have hs := okU_st h1
    have hbs := okU_bs h1
    have hb2 : 0 ≤ bus ∧ bus ≤ bs - 1 := by simpa [inB] using hb
    obtain ⟨c, rfl⟩ := Int.eq_ofNat_of_zero_le hb2.1
    rw [Int.toNat_natCast] at h
    cases hw : wayF ls ts us c with
    | nil => rw [hw] at h; simp [hd1] at h
    | cons k ws =>
      obtain ⟨o, hl, hwo, hwo2⟩ := wayF_cons ha ho hw
      obtain ⟨f, hf, hcf⟩ := hwo.fed
      have hol := hl.lt (stOk_net hs)
      have hbo : inB (o : Int) 0 (bs - 1) = true := by simp [inB]; omega
      refine ⟨c, k, o, rfl, ?_, hs, hl.len, ?_, other_ln hs hl, ?_, ?_⟩
      · rw [plnF, if_pos ⟨hr, hb⟩, Int.toNat_natCast, hw]; rfl
      · obtain ⟨l, _, h2, _⟩ := hl; exact h2
      · rw [fby_of hr (by omega) hf hcf, fby_of hr (by omega) hf (hcf.trans hl.conn)]
      · rw [patF, if_pos ⟨hr, hb⟩, patF, if_pos ⟨hr, hbo⟩, Int.toNat_natCast, Int.toNat_natCast, hw, hwo2, List.reverse_cons]
        simp [ofN]
  · omega
theorem pat_none {bus : Int} (h : (patF bs ls ts us bus).length = 0) : fbyF bs ls ts us bus = -1 ∨ fbyF bs ls ts us bus = bus := by
  by_cases hx : fbyF bs ls ts us bus < 0
  · exact .inl (fby_un hx).1
  · obtain ⟨f, c, rfl, hc, he, hr, _, _, hf, hcf⟩ := fby_feed hx
    obtain ⟨h1, ha, ho⟩ := radF_iff.1 hr
    rw [patF, if_pos ⟨hr, by simp [inB]; omega⟩, ofN_len, List.length_reverse, Int.toNat_natCast] at h
    have hw := wayF_is ha ho ⟨f, hf, hcf⟩
    rw [List.length_eq_zero_iff.1 h] at hw
    cases hw with
    | feed hb => exact .inr (fby_of hr hc hb (Conn.refl _))
theorem pat_some {bus : Int} (h : ¬ (patF bs ls ts us bus).length = 0) : ∃ (f c : Nat) (xs : List Nat), bus = (c : Int) ∧ patF bs ls ts us bus = ofN xs ∧ stOk bs ls ts.length = true ∧ fbyF bs ls ts us bus = (f : Int) ∧ Chain ls ts f xs c ∧ xs.Nodup ∧ ∀ x ∈ xs, x < ts.length ∧ ts[x]? = some true := by
  rw [patF] at h ⊢
  split at h
  · rename_i hc
    obtain ⟨hr, hb⟩ := hc
    obtain ⟨h1, ha, ho⟩ := radF_iff.1 hr
    have hbs := okU_bs h1
    have hb2 : 0 ≤ bus ∧ bus ≤ bs - 1 := by simpa [inB] using hb
    obtain ⟨c, rfl⟩ := Int.eq_ofNat_of_zero_le hb2.1
    rw [ofN_len, List.length_reverse, Int.toNat_natCast] at h
    obtain ⟨j, hj⟩ := List.exists_mem_of_length_pos (Nat.pos_of_ne_zero h)
    have hw := wayF_fed ha ho hj
    obtain ⟨f, hf, hcf, hch⟩ := hw.chain
    refine ⟨f, c, _, rfl, by rw [if_pos ⟨hr, hb⟩, Int.toNat_natCast], okU_st h1, fby_of hr (by omega) hf hcf, hch, List.pairwise_reverse.2 ((hw.nodup ha ho).imp fun h => Ne.symm h), fun x hx => hw.on x (List.mem_reverse.1 hx)⟩
  · exact absurd rfl h
theorem chain_at {x : Nat} (h : Chain ls ts a (xs.drop k) c) (hx : xs[k]? = some x) : ∃ a', Ln ls ts x a a' ∧ Chain ls ts a' (xs.drop (k + 1)) c := by
  obtain ⟨hk, e⟩ := List.getElem?_eq_some_iff.1 hx
  rw [List.drop_eq_getElem_cons hk, e] at h
  exact h
theorem chain_end (h : Chain ls ts a (xs.drop xs.length) c) : a = c := by
  rw [List.drop_length] at h; exact h
theorem nodup_take {x : Nat} (h : xs.Nodup) (hx : xs[k]? = some x) : decide ((x : Int) ∈ (ofN xs).take k) = false := by
  rw [decide_eq_false_iff_not]
  intro hm
  obtain ⟨hk, e⟩ := List.getElem?_eq_some_iff.1 hx
  obtain ⟨i, hi, e2⟩ := List.getElem_of_mem hm
  rw [List.length_take] at hi
  rw [List.getElem_take] at e2
  have hi2 : i < xs.length := by omega
  have e3 : (xs[i]'hi2 : Int) = (x : Int) := by rw [← e2]; simp [ofN]
  have e4 : xs[i]'hi2 = xs[k]'hk := by rw [e]; omega
  have := (List.getElem_inj h).1 e4
  omega
end
end Go.Proofs.YtcfnkjblhhmbeaaDoor
