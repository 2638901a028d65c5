/- Radial networks, plain facts: passes over the lines that mark what is fed. -/
import Derived.Test.YtcfnkjblhhmbeaaDoorF0
namespace Go.Proofs.YtcfnkjblhhmbeaaDoor
open Go.RowKit

def markM (out : List Int) (b : Nat) : Bool := decide (-2 < out.getD b (-2))
def lineM (out : List Int) (b : Nat) : Int := out.getD b (-2)
/-- How many are left. -/
def leftM (m : Nat → Bool) (nb : Nat) : Nat := leftN (fun b => if m b = true then 1 else 0) nb
theorem leftM_le_nb (m : Nat → Bool) (nb : Nat) : leftM m nb ≤ nb := by
  unfold leftM leftN
  exact Nat.le_trans List.countP_le_length (by simp)
theorem leftM_mark {m m' : Nat → Bool} {nb y : Nat} (hy : m y = false) (hlt : y < nb) (em : ∀ b, m' b = if b = y then true else m b) : leftM m' nb + 1 ≤ leftM m nb := by
  unfold leftM
  refine leftN_lt (x := y) (fun b hb => ?_) (by simp [hy]) (by simp [em]) hlt
  by_cases e : b = y
  · simp [em, e]
  · simp only [em, if_neg e]; exact hb
theorem leftM_zero {m : Nat → Bool} {nb b : Nat} (h : leftM m nb = 0) (hb : b < nb) : m b = true := by
  unfold leftM leftN at h
  rw [List.countP_eq_zero] at h
  have := h b (List.mem_range.2 hb)
  cases hm : m b
  · simp [hm] at this
  · rfl
/-- All lines keep what is marked. -/
def Shut (ls : List L3) (ts : List Bool) (m : Nat → Bool) : Prop := ∀ k u v, Ln ls ts k u v → m u = true → m v = true

structure PassI (ls : List L3) (ts : List Bool) (us : List U2) (nb : Nat) (out0 : List Int) (C : Nat → Nat → Nat → Prop) (out : List Int) : Prop where
  len : out.length = nb
  bd : ∀ z ∈ out, -2 ≤ z ∧ z ≤ 1000
  gr : Grow ls ts us (markM out) (lineM out)
  ch : (leftM (markM out) nb < leftM (markM out0) nb ∧ ¬ Shut ls ts (markM out0)) ∨ (out = out0 ∧ ∀ j u v, C j u v → Ln ls ts j u v → markM out0 u = true → markM out0 v = true)
section
variable {ls : List L3} {ts : List Bool} {us : List U2} {nb k a b : Nat} {out0 out : List Int} {C : Nat → Nat → Nat → Prop}
theorem PassI.mono {C' : Nat → Nat → Nat → Prop} (h : PassI ls ts us nb out0 C out) (hc : ∀ j u v, Ln ls ts j u v → C' j u v → C j u v) : PassI ls ts us nb out0 C' out :=
  ⟨h.len, h.bd, h.gr, h.ch.imp id fun ⟨e, q⟩ => ⟨e, fun j u v c hl => q j u v (hc j u v hl c) hl⟩⟩
theorem getD_setI {b : Nat} (hb : b < out.length) (z : Int) (c : Nat) : (out.set b z).getD c (-2) = if c = b then z else out.getD c (-2) := by
  simp only [List.getD_eq_getElem?_getD, List.getElem?_set]
  by_cases e : b = c
  · subst e; simp [hb]
  · rw [if_neg e, if_neg (fun e2 => e e2.symm)]
theorem half_no (h : PassI ls ts us nb out0 C out) (hno : Ln ls ts k a b → -2 < out.getD a (-2) → out.getD b (-2) ≠ -2) : PassI ls ts us nb out0 (fun j u v => C j u v ∨ (j = k ∧ u = a ∧ v = b)) out := by
  refine ⟨h.len, h.bd, h.gr, h.ch.imp id fun ⟨e, q⟩ => ⟨e, ?_⟩⟩
  rintro j u v (c | ⟨rfl, rfl, rfl⟩) hl hu
  · exact q j u v c hl hu
  · rw [← e] at hu ⊢
    simp only [markM, decide_eq_true_eq] at hu ⊢
    have h1 := hno hl hu
    have h2 : -2 ≤ out.getD v (-2) := by
      rw [List.getD_eq_getElem?_getD]
      rcases hv : out[v]? with _ | z
      · exact Int.le_refl _
      · exact (h.bd z (List.mem_of_getElem? hv)).1
    omega
theorem half_yes (h : PassI ls ts us nb out0 C out) (hl : Ln ls ts k a b) (ha : -2 < out.getD a (-2)) (hb : out.getD b (-2) = -2) (hlt : b < nb) (hk : k ≤ 1000) : PassI ls ts us nb out0 (fun j u v => C j u v ∨ (j = k ∧ u = a ∧ v = b)) (out.set b (k : Int)) := by
  have hbl : b < out.length := by rw [h.len]; exact hlt
  have em : ∀ c, markM (out.set b (k : Int)) c = if c = b then true else markM out c := fun c => by
    unfold markM; rw [getD_setI hbl]
    split
    · rw [decide_eq_true_eq]; omega
    · rfl
  have ep : ∀ c, lineM (out.set b (k : Int)) c = if c = b then (k : Int) else lineM out c := fun c => getD_setI hbl _ c
  have ma : markM out a = true := by simpa [markM] using ha
  have mb : markM out b = false := by simp only [markM, hb]; decide
  have hlm := leftM_mark mb hlt em
  refine ⟨by rw [List.length_set]; exact h.len, fun z hz => ?_, h.gr.mark hl ma mb em ep, .inl ?_⟩
  · rcases List.mem_or_eq_of_mem_set hz with hz | rfl
    · exact h.bd z hz
    · omega
  · rcases h.ch with ⟨q1, q2⟩ | ⟨rfl, _⟩
    · exact ⟨by omega, q2⟩
    · exact ⟨by omega, fun q => by rw [q k a b hl ma] at mb; cases mb⟩
theorem pass_zero (hl : out.length = nb) (hbd : ∀ z ∈ out, -2 ≤ z ∧ z ≤ 1000) (hg : Grow ls ts us (markM out) (lineM out)) : PassI ls ts us nb out (fun j _ _ => j < 0) out :=
  ⟨hl, hbd, hg, .inr ⟨rfl, fun _ _ _ h => absurd h (by omega)⟩⟩
theorem pass_next {l : L3} (hk : ls[k]? = some l) (h : PassI ls ts us nb out0 (fun j u v => ((j < k ∨ (j = k ∧ u = l.1.toNat ∧ v = l.2.1.toNat)) ∨ (j = k ∧ u = l.2.1.toNat ∧ v = l.1.toNat))) out) : PassI ls ts us nb out0 (fun j _ _ => j < k + 1) out := by
  refine h.mono fun j u v hl hj => ?_
  rcases Nat.lt_or_ge j k with h1 | h1
  · exact .inl (.inl h1)
  · obtain rfl : j = k := by omega
    obtain ⟨l', e1, _, e3⟩ := hl
    rw [hk] at e1; injection e1 with e1; subst e1
    rcases e3 with ⟨rfl, rfl⟩ | ⟨rfl, rfl⟩
    · exact .inl (.inr ⟨rfl, rfl, rfl⟩)
    · exact .inr ⟨rfl, rfl, rfl⟩

/-- After so many passes. -/
structure RoundI (ls : List L3) (ts : List Bool) (us : List U2) (nb j : Nat) (out : List Int) : Prop where
  len : out.length = nb
  bd : ∀ z ∈ out, -2 ≤ z ∧ z ≤ 1000
  gr : Grow ls ts us (markM out) (lineM out)
  ch : leftM (markM out) nb + j ≤ nb ∨ Shut ls ts (markM out)
theorem RoundI.pass {j : Nat} (h : RoundI ls ts us nb j out) : PassI ls ts us nb out (fun j _ _ => j < 0) out := pass_zero h.len h.bd h.gr
theorem RoundI.next {j n : Nat} (h0 : RoundI ls ts us nb j out0) (h : PassI ls ts us nb out0 (fun j _ _ => j < n) out) (hn : ts.length ≤ n) : RoundI ls ts us nb (j + 1) out := by
  refine ⟨h.len, h.bd, h.gr, ?_⟩
  rcases h.ch with ⟨q1, q2⟩ | ⟨rfl, q⟩
  · rcases h0.ch with q3 | q3
    · exact .inl (by omega)
    · exact absurd q3 q2
  · exact .inr fun k u v hl hu => q k u v (Nat.lt_of_lt_of_le hl.len hn) hl hu
def par0 (us : List U2) (k : Nat) : List Int := (List.range k).map fun b => if 0 < fd us b then -1 else -2
theorem par0_succ (us : List U2) (k : Nat) : par0 us (k + 1) = par0 us k ++ [if 0 < fd us k then -1 else -2] := by
  unfold par0; rw [List.range_succ, List.map_append]; rfl
theorem par0_len (us : List U2) (k : Nat) : (par0 us k).length = k := by simp [par0]
theorem par0_getD (us : List U2) {k : Nat} (hu : us.length = k) (b : Nat) : (par0 us k).getD b (-2) = if 0 < fd us b then -1 else -2 := by
  rw [List.getD_eq_getElem?_getD]
  rcases Nat.lt_or_ge b k with hb | hb
  · rw [par0, List.getElem?_map, List.getElem?_range hb]; rfl
  · rw [List.getElem?_eq_none (by rw [par0_len]; exact hb), if_neg fun h => absurd (fd_lt h) (by omega)]; rfl
theorem round_start (hu : us.length = nb) : RoundI ls ts us nb 0 (par0 us nb) := by
  refine ⟨par0_len us nb, fun z hz => ?_, grow_start (fun b hb => ?_) (fun b hb => ?_), .inl (leftM_le_nb _ _)⟩
  · obtain ⟨b, _, rfl⟩ := List.mem_map.1 hz
    split <;> omega
  · unfold markM lineM; rw [par0_getD us hu, if_pos hb]; exact ⟨by decide, rfl⟩
  · unfold markM at hb; rw [par0_getD us hu] at hb
    by_cases h : 0 < fd us b
    · exact h
    · rw [if_neg h] at hb; simp at hb
noncomputable def parF (ls : List L3) (ts : List Bool) (us : List U2) (nb : Nat) : List Int := (List.range nb).map fun b => if fedB (edgesOn ls ts) us b = true then hd1 (wayF ls ts us b) else -2
theorem parF_len : (parF ls ts us nb).length = nb := by simp [parF]
theorem parF_get (hb : b < nb) : (parF ls ts us nb)[b]? = some (if fedB (edgesOn ls ts) us b = true then hd1 (wayF ls ts us b) else -2) := by
  rw [parF, List.getElem?_map, List.getElem?_range hb]; rfl
theorem round_end {bs : Int} (hv : netOk bs ls = true) (hnb : bs.toNat = nb) (ha : Acyc ls ts) (ho : OneFeed (edgesOn ls ts) us) (h : RoundI ls ts us nb nb out) : out = parF ls ts us nb := by
  have hs : Shut ls ts (markM out) := by
    rcases h.ch with q | q
    · intro k u v hl _
      exact leftM_zero (m := markM out) (nb := nb) (by omega) (by rw [← hnb]; exact hl.symm.lt hv)
    · exact q
  apply List.ext_getElem?
  intro b
  rcases Nat.lt_or_ge b nb with hb | hb
  · rw [parF_get hb]
    have e : out[b]? = some (out.getD b (-2)) := by rw [List.getD_eq_getElem?_getD, List.getElem?_eq_getElem (by rw [h.len]; exact hb)]; rfl
    have hf := h.gr.fed hs b
    rw [← fedB_iff] at hf
    rw [e]; congr 1
    split
    · rename_i hfb
      obtain ⟨ws, hw, e2⟩ := h.gr.way (hf.2 hfb)
      rw [wayF_of ha ho hw]; exact e2
    · rename_i hfb
      have hm : ¬ (-2 < out.getD b (-2)) := fun q => hfb (hf.1 (by simpa [markM] using q))
      have := (h.bd (out.getD b (-2)) (List.mem_of_getElem? e)).1
      omega
  · rw [List.getElem?_eq_none (by rw [h.len]; exact hb), List.getElem?_eq_none (by rw [parF_len]; exact hb)]
end
end Go.Proofs.YtcfnkjblhhmbeaaDoor
