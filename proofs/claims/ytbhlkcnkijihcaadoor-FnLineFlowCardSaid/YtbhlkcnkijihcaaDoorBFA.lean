/- Texts joined: Radial networks, plain facts: passes over the lines that mark what is fed; Radial networks, plain facts: a search from all feeds at once, with a queue. -/
import Derived.Test.YtbhlkcnkijihcaaDoorF0

/- Radial networks, plain facts: passes over the lines that mark what is fed. -/
namespace Go.Proofs.YtbhlkcnkijihcaaDoor
open Go.RowKit

def markM (out : List Int) (b : Nat) : Bool := decide (-2 < out.getD b (-2))
def lineM (out : List Int) (b : Nat) : Int := out.getD b (-2)
/-- How many are left. -/
def leftM (m : Nat → Bool) (nb : Nat) : Nat := leftN (fun b => if m b = true then 1 else 0) nb
theorem leftM_le_nb (m : Nat → Bool) (nb : Nat) : leftM m nb ≤ nb := by
  unfold leftM leftN
  exact Nat.le_trans List.countP_le_length (by simp)
theorem leftM_mark {m m' : Nat → Bool} {nb y : Nat} (hy : m y = false) (hlt : y < nb) (em : ∀ b, m' b = if b = y then true else m b) : leftM m' nb + 1 ≤ leftM m nb := by
  unfold leftM
  refine leftN_lt (x := y) (fun b hb => ?_) (by simp [hy]) (by simp [em]) hlt
  by_cases e : b = y
  · simp [em, e]
  · simp only [em, if_neg e]; exact hb
theorem leftM_zero {m : Nat → Bool} {nb b : Nat} (h : leftM m nb = 0) (hb : b < nb) : m b = true := by
  unfold leftM leftN at h
  rw [List.countP_eq_zero] at h
  have := h b (List.mem_range.2 hb)
  cases hm : m b
  · simp [hm] at this
  · rfl
/-- All lines keep what is marked. -/
def Shut (ls : List L3) (ts : List Bool) (m : Nat → Bool) : Prop := ∀ k u v, Ln ls ts k u v → m u = true → m v = true

structure PassI (ls : List L3) (ts : List Bool) (us : List U2) (nb : Nat) (out0 : List Int) (C : Nat → Nat → Nat → Prop) (out : List Int) : Prop where
  len : out.length = nb
  bd : ∀ z ∈ out, -2 ≤ z ∧ z ≤ 1000
  gr : Grow ls ts us (markM out) (lineM out)
  ch : (leftM (markM out) nb < leftM (markM out0) nb ∧ ¬ Shut ls ts (markM out0)) ∨ (out = out0 ∧ ∀ j u v, C j u v → Ln ls ts j u v → markM out0 u = true → markM out0 v = true)
section
variable {ls : List L3} {ts : List Bool} {us : List U2} {nb k a b : Nat} {out0 out : List Int} {C : Nat → Nat → Nat → Prop}
theorem PassI.mono {C' : Nat → Nat → Nat → Prop} (h : PassI ls ts us nb out0 C out) (hc : ∀ j u v, Ln ls ts j u v → C' j u v → C j u v) : PassI ls ts us nb out0 C' out :=
  ⟨h.len, h.bd, h.gr, h.ch.imp id fun ⟨e, q⟩ => ⟨e, fun j u v c hl => q j u v (hc j u v hl c) hl⟩⟩
theorem getD_setI {b : Nat} (hb : b < out.length) (z : Int) (c : Nat) : (out.set b z).getD c (-2) = if c = b then z else out.getD c (-2) := by
  simp only [List.getD_eq_getElem?_getD, List.getElem?_set]
  by_cases e : b = c
  · subst e; simp [hb]
  · rw [if_neg e, if_neg (fun e2 => e e2.symm)]
theorem half_no (h : PassI ls ts us nb out0 C out) (hno : Ln ls ts k a b → -2 < out.getD a (-2) → out.getD b (-2) ≠ -2) : PassI ls ts us nb out0 (fun j u v => C j u v ∨ (j = k ∧ u = a ∧ v = b)) out := by
  refine ⟨h.len, h.bd, h.gr, h.ch.imp id fun ⟨e, q⟩ => ⟨e, ?_⟩⟩
  rintro j u v (c | ⟨rfl, rfl, rfl⟩) hl hu
  · exact q j u v c hl hu
  · rw [← e] at hu ⊢
    simp only [markM, decide_eq_true_eq] at hu ⊢
    have h1 := hno hl hu
    have h2 : -2 ≤ out.getD v (-2) := by
      rw [List.getD_eq_getElem?_getD]
      rcases hv : out[v]? with _ | z
      · exact Int.le_refl _
      · exact (h.bd z (List.mem_of_getElem? hv)).1
    omega
theorem half_yes (h : PassI ls ts us nb out0 C out) (hl : Ln ls ts k a b) (ha : -2 < out.getD a (-2)) (hb : out.getD b (-2) = -2) (hlt : b < nb) (hk : k ≤ 1000) : PassI ls ts us nb out0 (fun j u v => C j u v ∨ (j = k ∧ u = a ∧ v = b)) (out.set b (k : Int)) := by
  have hbl : b < out.length := by rw [h.len]; exact hlt
  have em : ∀ c, markM (out.set b (k : Int)) c = if c = b then true else markM out c := fun c => by
    unfold markM; rw [getD_setI hbl]
    split
    · rw [decide_eq_true_eq]; omega
    · rfl
  have ep : ∀ c, lineM (out.set b (k : Int)) c = if c = b then (k : Int) else lineM out c := fun c => getD_setI hbl _ c
  have ma : markM out a = true := by simpa [markM] using ha
  have mb : markM out b = false := by simp only [markM, hb]; decide
  have hlm := leftM_mark mb hlt em
  refine ⟨by rw [List.length_set]; exact h.len, fun z hz => ?_, h.gr.mark hl ma mb em ep, .inl ?_⟩
  · rcases List.mem_or_eq_of_mem_set hz with hz | rfl
    · exact h.bd z hz
    · omega
  · rcases h.ch with ⟨q1, q2⟩ | ⟨rfl, _⟩
    · exact ⟨by omega, q2⟩
    · exact ⟨by omega, fun q => by rw [q k a b hl ma] at mb; cases mb⟩
theorem pass_zero (hl : out.length = nb) (hbd : ∀ z ∈ out, -2 ≤ z ∧ z ≤ 1000) (hg : Grow ls ts us (markM out) (lineM out)) : PassI ls ts us nb out (fun j _ _ => j < 0) out :=
  ⟨hl, hbd, hg, .inr ⟨rfl, fun _ _ _ h => absurd h (by omega)⟩⟩
theorem pass_next {l : L3} (hk : ls[k]? = some l) (h : PassI ls ts us nb out0 (fun j u v => ((j < k ∨ (j = k ∧ u = l.1.toNat ∧ v = l.2.1.toNat)) ∨ (j = k ∧ u = l.2.1.toNat ∧ v = l.1.toNat))) out) : PassI ls ts us nb out0 (fun j _ _ => j < k + 1) out := by
  refine h.mono fun j u v hl hj => ?_
  rcases Nat.lt_or_ge j k with h1 | h1
  · exact .inl (.inl h1)
  · obtain rfl : j = k := by omega
    obtain ⟨l', e1, _, e3⟩ := hl
    rw [hk] at e1; injection e1 with e1; subst e1
    rcases e3 with ⟨rfl, rfl⟩ | ⟨rfl, rfl⟩
    · exact .inl (.inr ⟨rfl, rfl, rfl⟩)
    · exact .inr ⟨rfl, rfl, rfl⟩

/-- After so many passes. -/
structure RoundI (ls : List L3) (ts : List Bool) (us : List U2) (nb j : Nat) (out : List Int) : Prop where
  len : out.length = nb
  bd : ∀ z ∈ out, -2 ≤ z ∧ z ≤ 1000
  gr : Grow ls ts us (markM out) (lineM out)
  ch : leftM (markM out) nb + j ≤ nb ∨ Shut ls ts (markM out)
theorem RoundI.pass {j : Nat} (h : RoundI ls ts us nb j out) : PassI ls ts us nb out (fun j _ _ => j < 0) out := pass_zero h.len h.bd h.gr
theorem RoundI.next {j n : Nat} (h0 : RoundI ls ts us nb j out0) (h : PassI ls ts us nb out0 (fun j _ _ => j < n) out) (hn : ts.length ≤ n) : RoundI ls ts us nb (j + 1) out := by
  refine ⟨h.len, h.bd, h.gr, ?_⟩
  rcases h.ch with ⟨q1, q2⟩ | ⟨rfl, q⟩
  · rcases h0.ch with q3 | q3
    · exact .inl (by omega)
    · exact absurd q3 q2
  · exact .inr fun k u v hl hu => q k u v (Nat.lt_of_lt_of_le hl.len hn) hl hu
def par0 (us : List U2) (k : Nat) : List Int := (List.range k).map fun b => if 0 < fd us b then -1 else -2
theorem par0_succ (us : List U2) (k : Nat) : par0 us (k + 1) = par0 us k ++ [if 0 < fd us k then -1 else -2] := by
  unfold par0; rw [List.range_succ, List.map_append]; rfl
theorem par0_len (us : List U2) (k : Nat) : (par0 us k).length = k := by simp [par0]
theorem par0_getD (us : List U2) {k : Nat} (hu : us.length = k) (b : Nat) : (par0 us k).getD b (-2) = if 0 < fd us b then -1 else -2 := by
  rw [List.getD_eq_getElem?_getD]
  rcases Nat.lt_or_ge b k with hb | hb
  · rw [par0, List.getElem?_map, List.getElem?_range hb]; rfl
  · rw [List.getElem?_eq_none (by rw [par0_len]; exact hb), if_neg fun h => absurd (fd_lt h) (by omega)]; rfl
theorem round_start (hu : us.length = nb) : RoundI ls ts us nb 0 (par0 us nb) := by
  refine ⟨par0_len us nb, fun z hz => ?_, grow_start (fun b hb => ?_) (fun b hb => ?_), .inl (leftM_le_nb _ _)⟩
  · obtain ⟨b, _, rfl⟩ := List.mem_map.1 hz
    split <;> omega
  · unfold markM lineM; rw [par0_getD us hu, if_pos hb]; exact ⟨by decide, rfl⟩
  · unfold markM at hb; rw [par0_getD us hu] at hb
    by_cases h : 0 < fd us b
    · exact h
    · rw [if_neg h] at hb; simp at hb
noncomputable def parF (ls : List L3) (ts : List Bool) (us : List U2) (nb : Nat) : List Int := (List.range nb).map fun b => if fedB (edgesOn ls ts) us b = true then hd1 (wayF ls ts us b) else -2
theorem parF_len : (parF ls ts us nb).length = nb := by simp [parF]
theorem parF_get (hb : b < nb) : (parF ls ts us nb)[b]? = some (if fedB (edgesOn ls ts) us b = true then hd1 (wayF ls ts us b) else -2) := by
  rw [parF, List.getElem?_map, List.getElem?_range hb]; rfl
theorem round_end {bs : Int} (hv : netOk bs ls = true) (hnb : bs.toNat = nb) (ha : Acyc ls ts) (ho : OneFeed (edgesOn ls ts) us) (h : RoundI ls ts us nb nb out) : out = parF ls ts us nb := by
  have hs : Shut ls ts (markM out) := by
    rcases h.ch with q | q
    · intro k u v hl _
      exact leftM_zero (m := markM out) (nb := nb) (by omega) (by rw [← hnb]; exact hl.symm.lt hv)
    · exact q
  apply List.ext_getElem?
  intro b
  rcases Nat.lt_or_ge b nb with hb | hb
  · rw [parF_get hb]
    have e : out[b]? = some (out.getD b (-2)) := by rw [List.getD_eq_getElem?_getD, List.getElem?_eq_getElem (by rw [h.len]; exact hb)]; rfl
    have hf := h.gr.fed hs b
    rw [← fedB_iff] at hf
    rw [e]; congr 1
    split
    · rename_i hfb
      obtain ⟨ws, hw, e2⟩ := h.gr.way (hf.2 hfb)
      rw [wayF_of ha ho hw]; exact e2
    · rename_i hfb
      have hm : ¬ (-2 < out.getD b (-2)) := fun q => hfb (hf.1 (by simpa [markM] using q))
      have := (h.bd (out.getD b (-2)) (List.mem_of_getElem? e)).1
      omega
  · rw [List.getElem?_eq_none (by rw [h.len]; exact hb), List.getElem?_eq_none (by rw [parF_len]; exact hb)]
end
end Go.Proofs.YtbhlkcnkijihcaaDoor

/- Radial networks, plain facts: a search from all feeds at once, with a queue. -/
namespace Go.Proofs.YtbhlkcnkijihcaaDoor
open Go.RowKit

def supAt (s : List U2) (b : Nat) : U2 := s.getD b (-1, -1)
def markS (s : List U2) (b : Nat) : Bool := decide (0 ≤ (supAt s b).1)
def lineS (s : List U2) (b : Nat) : Int := (supAt s b).2
theorem supAt_get {s : List U2} {b : Nat} {u : U2} (h : s[b]? = some u) : supAt s b = u := by rw [supAt, List.getD_eq_getElem?_getD, h]; rfl
theorem supAt_set {s : List U2} {b : Nat} (hb : b < s.length) (z : U2) (c : Nat) : supAt (s.set b z) c = if c = b then z else supAt s c := by
  unfold supAt
  simp only [List.getD_eq_getElem?_getD, List.getElem?_set]
  by_cases e : b = c
  · subst e; simp [hb]
  · rw [if_neg e, if_neg (fun e2 => e e2.symm)]
structure Sup (ls : List L3) (ts : List Bool) (us : List U2) (nb : Nat) (s : List U2) : Prop where
  len : s.length = nb
  gr : Grow ls ts us (markS s) (lineS s)
  fe : ∀ b, markS s b = true → ∃ f : Nat, (supAt s b).1 = (f : Int) ∧ 0 < fd us f ∧ Conn (edgesOn ls ts) f b
  un : ∀ b, markS s b = false → supAt s b = (-1, -1)
/-- Between two rounds: q the buses from which the search goes on. -/
structure Queue (ls : List L3) (ts : List Bool) (us : List U2) (nb : Nat) (s : List U2) (q : List Nat) : Prop where
  sp : Sup ls ts us nb s
  qm : ∀ b ∈ q, markS s b = true
  nd : q.Nodup
  ch : ∀ y k u, markS s y = true → lineS s y = ((k : Nat) : Int) → Ln ls ts k u y → u ∉ q
  cl : ∀ u v k, markS s u = true → u ∉ q → Ln ls ts k u v → markS s v = true
/-- Within a round: the search goes on from x, along the lines of dn so far. -/
structure Work (ls : List L3) (ts : List Bool) (us : List U2) (nb : Nat) (s : List U2) (x : Nat) (dn : Nat → Prop) (q : List Nat) : Prop where
  sp : Sup ls ts us nb s
  mx : markS s x = true
  qm : ∀ b ∈ q, markS s b = true ∧ b ≠ x
  nd : q.Nodup
  ch : ∀ y k u, markS s y = true → lineS s y = ((k : Nat) : Int) → Ln ls ts k u y → u ∉ q ∧ (u = x → dn k)
  cl : ∀ u v k, markS s u = true → u ∉ q → (u = x → dn k) → Ln ls ts k u v → markS s v = true
section
variable {ls : List L3} {ts : List Bool} {us : List U2} {nb k x y : Nat} {s : List U2} {dn : Nat → Prop} {q : List Nat}
theorem work_start (h : Queue ls ts us nb s (x :: q)) : Work ls ts us nb s x (fun _ => False) q := by
  obtain ⟨n1, n2⟩ := List.nodup_cons.1 h.nd
  refine ⟨h.sp, h.qm x (by simp), fun b hb => ⟨h.qm b (by simp [hb]), fun e => n1 (e ▸ hb)⟩, n2, fun y k u hm hp hl => ?_, fun u v k hm hu hx hl => ?_⟩
  · have := h.ch y k u hm hp hl
    simp only [List.mem_cons, not_or] at this
    exact ⟨this.2, this.1⟩
  · refine h.cl u v k hm ?_ hl
    simp only [List.mem_cons, not_or]
    exact ⟨hx, hu⟩
theorem work_end (h : Work ls ts us nb s x dn q) (hd : ∀ k v, Ln ls ts k x v → dn k) : Queue ls ts us nb s q :=
  ⟨h.sp, fun b hb => (h.qm b hb).1, h.nd, fun y k u hm hp hl => (h.ch y k u hm hp hl).1, fun u v k hm hu hl => h.cl u v k hm hu (fun e => by subst e; exact hd k v hl) hl⟩
theorem work_iff {dn' : Nat → Prop} (h : Work ls ts us nb s x dn q) (e : ∀ k, dn k ↔ dn' k) : Work ls ts us nb s x dn' q :=
  ⟨h.sp, h.mx, h.qm, h.nd, fun y k u hm hp hl => ⟨(h.ch y k u hm hp hl).1, fun e2 => (e k).1 ((h.ch y k u hm hp hl).2 e2)⟩, fun u v k hm hu hx hl => h.cl u v k hm hu (fun e2 => (e k).2 (hx e2)) hl⟩
theorem work_skip (h : Work ls ts us nb s x dn q) (hs : ∀ v, Ln ls ts k x v → (k : Int) = lineS s x) : Work ls ts us nb s x (fun j => dn j ∨ j = k) q := by
  refine ⟨h.sp, h.mx, h.qm, h.nd, fun y j u hm hp hl => ⟨(h.ch y j u hm hp hl).1, fun e => .inl ((h.ch y j u hm hp hl).2 e)⟩, fun u v j hm hu hx hl => ?_⟩
  by_cases e : u = x ∧ j = k
  · obtain ⟨rfl, rfl⟩ := e
    have e2 := hs v hl
    by_cases hf : 0 < fd us u
    · have := (h.sp.gr.fe u hf).2; omega
    · obtain ⟨k', o, ws, e3, hl', ho, _⟩ := h.sp.gr.pa u hm hf
      obtain rfl : j = k' := by omega
      rcases Ln.two hl hl' with ⟨e4, _⟩ | ⟨e4, _⟩
      · -- the line's other end is the bus itself: o = u, u = v
        rename_i e5; rw [← e5]; exact hm
      · rw [← e4]; exact ho
  · refine h.cl u v j hm hu (fun e2 => ?_) hl
    rcases hx e2 with q | q
    · exact q
    · exact absurd ⟨e2, q⟩ e
/-- What a line of x leads to that is neither the line of x nor done is not marked yet: there is no cycle. -/
theorem work_new (ha : Acyc ls ts) (ho : OneFeed (edgesOn ls ts) us) (h : Work ls ts us nb s x dn q) (hl : Ln ls ts k x y) (hk : (k : Int) ≠ lineS s x) (hd : ¬ dn k) : markS s y = false := by
  rw [Bool.eq_false_iff]; intro hy
  obtain ⟨ws, hw, ew⟩ := h.sp.gr.way h.mx
  obtain ⟨vs, hv, ev⟩ := h.sp.gr.way hy
  have key : ∀ {us' b}, Way ls ts us b us' → k ∈ us' → False := by
    intro us' b hb hm
    obtain ⟨b', o, ws', hw', hl', _⟩ := hb.at_ k hm
    rcases Ln.two hl hl' with ⟨_, rfl⟩ | ⟨_, rfl⟩
    · have e := Way.one ha ho hv hw'
      subst e
      exact hd ((h.ch _ k x hy ev hl).2 rfl)
    · have e := Way.one ha ho hw hw'
      subst e
      exact hk ew.symm
  have out : ∀ {us' b}, Way ls ts us b us' → ∃ f, 0 < fd us f ∧ CW ls ts k f b := by
    intro us' b hb
    refine Classical.byContradiction fun hn => key hb ((hb.mem ha ho k).2 fun f hf hc => hn ⟨f, hf, hc⟩)
  obtain ⟨f, hf, hc⟩ := out hw
  obtain ⟨f', hf', hc'⟩ := out hv
  have e := ho _ _ hf hf' ((hc.conn.trans hl.conn).trans hc'.conn.symm)
  subst e
  exact ha k x y hl (hc.symm.trans hc')
theorem work_mark (ha : Acyc ls ts) (ho : OneFeed (edgesOn ls ts) us) (h : Work ls ts us nb s x dn q) (hl : Ln ls ts k x y) (hk : (k : Int) ≠ lineS s x) (hd : ¬ dn k) (hy : y < nb) :
    Work ls ts us nb (s.set y ((supAt s x).1, (k : Int))) x (fun j => dn j ∨ j = k) (q ++ [y]) ∧ leftM (markS (s.set y ((supAt s x).1, (k : Int)))) nb + 1 ≤ leftM (markS s) nb ∧ supAt (s.set y ((supAt s x).1, (k : Int))) x = supAt s x := by
  have hn := work_new ha ho h hl hk hd
  have hyl : y < s.length := by rw [h.sp.len]; exact hy
  have hxy : x ≠ y := fun e => by have := h.mx; rw [e, hn] at this; cases this
  have hx0 : 0 ≤ (supAt s x).1 := by simpa [markS] using h.mx
  have es := supAt_set (s := s) hyl ((supAt s x).1, (k : Int))
  have em : ∀ b, markS (s.set y ((supAt s x).1, (k : Int))) b = if b = y then true else markS s b := fun b => by
    unfold markS; rw [es]; split
    · simpa using hx0
    · rfl
  have ep : ∀ b, lineS (s.set y ((supAt s x).1, (k : Int))) b = if b = y then (k : Int) else lineS s b := fun b => by
    unfold lineS; rw [es]; split <;> rfl
  have hgr := h.sp.gr.mark hl h.mx hn em ep
  have hyq : y ∉ q := fun hq => by rw [(h.qm y hq).1] at hn; cases hn
  have hsx : supAt (s.set y ((supAt s x).1, (k : Int))) x = supAt s x := by rw [es, if_neg hxy]
  have hlm := leftM_mark hn hy em
  have hlen : (s.set y ((supAt s x).1, (k : Int))).length = nb := by rw [List.length_set]; exact h.sp.len
  generalize s.set y ((supAt s x).1, (k : Int)) = s' at *
  have sub : ∀ {b}, b ≠ y → markS s' b = true → markS s b = true := fun {b} e hb => by rw [em, if_neg e] at hb; exact hb
  have up : ∀ {b}, markS s b = true → markS s' b = true := fun {b} hb => by rw [em]; split <;> simp [hb]
  refine ⟨⟨⟨?_, hgr, fun b hb => ?_, fun b hb => ?_⟩, up h.mx, fun b hb => ?_, ?_, fun c j u hm hp hlc => ?_, fun u v j hm hu hx hlc => ?_⟩, hlm, hsx⟩
  · exact hlen
  · by_cases e : b = y
    · subst e
      obtain ⟨f, e1, e2, e3⟩ := h.sp.fe x h.mx
      exact ⟨f, by rw [es, if_pos rfl]; exact e1, e2, e3.trans hl.conn⟩
    · obtain ⟨f, e1, e2, e3⟩ := h.sp.fe b (sub e hb)
      exact ⟨f, by rw [es, if_neg e]; exact e1, e2, e3⟩
  · rw [em] at hb
    by_cases e : b = y
    · rw [if_pos e] at hb; cases hb
    · rw [if_neg e] at hb; rw [es, if_neg e]; exact h.sp.un b hb
  · rcases List.mem_append.1 hb with hb | hb
    · exact ⟨up (h.qm b hb).1, (h.qm b hb).2⟩
    · obtain rfl : b = y := by simpa using hb
      exact ⟨by rw [em, if_pos rfl], fun e => hxy e.symm⟩
  · rw [List.nodup_append]
    refine ⟨h.nd, by simp, fun a ha b hb e => ?_⟩
    obtain rfl : b = y := by simpa using hb
    subst e; exact hyq ha
  · by_cases e : c = y
    · subst e
      rw [ep, if_pos rfl] at hp
      obtain rfl : k = j := by omega
      have hu : u = x := by
        rcases Ln.two hl hlc with ⟨e1, _⟩ | ⟨_, e1⟩
        · exact e1
        · exact absurd e1.symm hxy
      subst hu
      refine ⟨fun hq => ?_, fun _ => .inr rfl⟩
      rcases List.mem_append.1 hq with hq | hq
      · exact (h.qm u hq).2 rfl
      · exact hxy (by simpa using hq)
    · rw [ep, if_neg e] at hp
      obtain ⟨q1, q2⟩ := h.ch c j u (sub e hm) hp hlc
      refine ⟨fun hq => ?_, fun e2 => .inl (q2 e2)⟩
      rcases List.mem_append.1 hq with hq | hq
      · exact q1 hq
      · -- y has no bus behind it yet: the other end of a marked bus's line is marked
        obtain rfl : u = y := by simpa using hq
        have hmc := sub e hm
        by_cases hf : 0 < fd us c
        · have := (h.sp.gr.fe c hf).2; omega
        · obtain ⟨k', o, ws, e3, hl', hmo, _⟩ := h.sp.gr.pa c hmc hf
          obtain rfl : j = k' := by omega
          rcases Ln.two hlc hl' with ⟨e4, _⟩ | ⟨_, e4⟩
          · rw [e4, hn] at hmo; cases hmo
          · exact e e4
  · by_cases e : u = y
    · subst e
      exact absurd (List.mem_append_right q (by simp)) hu
    · have hu2 : u ∉ q := fun hq => hu (List.mem_append_left _ hq)
      by_cases e2 : u = x ∧ j = k
      · obtain ⟨rfl, rfl⟩ := e2
        have hv : v = y := by
          rcases Ln.two hl hlc with ⟨_, e1⟩ | ⟨e1, _⟩
          · exact e1
          · exact absurd e1 hxy
        rw [em, if_pos hv]
      · refine up (h.cl u v j (sub e hm) hu2 (fun e3 => ?_) hlc)
        rcases hx e3 with q | q
        · exact q
        · exact absurd ⟨e3, q⟩ e2
/-- At the start: k of the buses are laid. -/
def sup0 (us : List U2) (nb k : Nat) : List U2 := (List.range nb).map fun b => if b < k then (if 0 < fd us b then ((b : Int), -1) else (-1, -1)) else (0, 0)
theorem sup0_len (us : List U2) (nb k : Nat) : (sup0 us nb k).length = nb := by simp [sup0]
theorem sup0_get {us : List U2} {nb k b : Nat} (hb : b < nb) : (sup0 us nb k)[b]? = some (if b < k then (if 0 < fd us b then ((b : Int), -1) else (-1, -1)) else (0, 0)) := by
  rw [sup0, List.getElem?_map, List.getElem?_range hb]; rfl
theorem sup0_zero (us : List U2) (nb : Nat) : sup0 us nb 0 = List.replicate nb (0, 0) := by
  apply List.ext_getElem?
  intro b
  rcases Nat.lt_or_ge b nb with hb | hb
  · rw [sup0_get hb, List.getElem?_replicate, if_pos hb]; simp
  · rw [List.getElem?_eq_none (by rw [sup0_len]; exact hb), List.getElem?_eq_none (by simpa using hb)]
theorem sup0_succ {us : List U2} {nb k : Nat} : sup0 us nb (k + 1) = (sup0 us nb k).set k (if 0 < fd us k then ((k : Int), -1) else (-1, -1)) := by
  apply List.ext_getElem?
  intro b
  rcases Nat.lt_or_ge b nb with hb | hb
  · rw [sup0_get hb, List.getElem?_set]
    by_cases e : k = b
    · subst e; simp [sup0_len, hb]
    · rw [if_neg e, sup0_get hb]
      congr 1
      by_cases h : b < k
      · rw [if_pos h, if_pos (by omega)]
      · rw [if_neg h, if_neg (by omega)]
  · rw [List.getElem?_eq_none (by rw [sup0_len]; exact hb), List.getElem?_eq_none (by rw [List.length_set, sup0_len]; exact hb)]
def feedsTo (us : List U2) (k : Nat) : List Nat := (List.range k).filter fun b => decide (0 < fd us b)
theorem feedsTo_yes {us : List U2} {k : Nat} (h : 0 < fd us k) : feedsTo us (k + 1) = feedsTo us k ++ [k] := by
  unfold feedsTo; rw [List.range_succ, List.filter_append]; simp [h]
theorem feedsTo_no {us : List U2} {k : Nat} (h : ¬ 0 < fd us k) : feedsTo us (k + 1) = feedsTo us k := by
  unfold feedsTo; rw [List.range_succ, List.filter_append]; simp [h]
theorem feedsTo_len (us : List U2) (k : Nat) : (feedsTo us k).length ≤ k := Nat.le_trans (List.length_filter_le _ _) (by simp)
theorem queue_start (hu : us.length = nb) : Queue ls ts us nb (sup0 us nb nb) (feedsTo us nb) := by
  have e : ∀ b, supAt (sup0 us nb nb) b = if 0 < fd us b then ((b : Int), -1) else (-1, -1) := fun b => by
    rcases Nat.lt_or_ge b nb with hb | hb
    · rw [supAt_get (sup0_get hb), if_pos hb]
    · unfold supAt
      rw [List.getD_eq_getElem?_getD, List.getElem?_eq_none (by rw [sup0_len]; exact hb), if_neg fun h => absurd (fd_lt h) (by omega)]; rfl
  have hm : ∀ b, markS (sup0 us nb nb) b = true → 0 < fd us b := fun b hb => by
    unfold markS at hb; rw [e] at hb
    by_cases h : 0 < fd us b
    · exact h
    · rw [if_neg h] at hb; simp at hb
  have hf : ∀ b, 0 < fd us b → markS (sup0 us nb nb) b = true ∧ lineS (sup0 us nb nb) b = -1 := fun b hb => by
    unfold markS lineS; rw [e, if_pos hb]; exact ⟨by simp, rfl⟩
  have hq : ∀ b, b ∈ feedsTo us nb ↔ 0 < fd us b := fun b => by
    rw [feedsTo, List.mem_filter, List.mem_range, decide_eq_true_eq]
    exact ⟨fun h => h.2, fun h => ⟨by have := fd_lt h; omega, h⟩⟩
  refine ⟨⟨sup0_len us nb nb, grow_start hf hm, fun b hb => ⟨b, by rw [e, if_pos (hm b hb)], hm b hb, Conn.refl _⟩, fun b hb => ?_⟩, fun b hb => (hf b ((hq b).1 hb)).1, List.Pairwise.filter _ List.nodup_range, fun y k u hy hp hl => ?_, fun u v k hmu hu hl => absurd ((hq u).2 (hm u hmu)) hu⟩
  · by_cases h : 0 < fd us b
    · rw [(hf b h).1] at hb; cases hb
    · rw [e, if_neg h]
  · have := (hf y (hm y hy)).2; omega
noncomputable def supF (ls : List L3) (ts : List Bool) (us : List U2) (nb : Nat) : List U2 := (List.range nb).map fun b => (feedOf (edgesOn ls ts) nb us b, hd1 (wayF ls ts us b))
theorem supF_len : (supF ls ts us nb).length = nb := by simp [supF]
theorem supF_get {b : Nat} (hb : b < nb) : (supF ls ts us nb)[b]? = some (feedOf (edgesOn ls ts) nb us b, hd1 (wayF ls ts us b)) := by
  rw [supF, List.getElem?_map, List.getElem?_range hb]; rfl
theorem queue_end (ha : Acyc ls ts) (ho : OneFeed (edgesOn ls ts) us) (hu : us.length = nb) (h : Queue ls ts us nb s []) : s = supF ls ts us nb := by
  have hf := h.sp.gr.fed (fun k u v hl hm => h.cl u v k hm (by simp) hl)
  apply List.ext_getElem?
  intro b
  rcases Nat.lt_or_ge b nb with hb | hb
  · rw [supF_get hb]
    have e : s[b]? = some (supAt s b) := by unfold supAt; rw [List.getD_eq_getElem?_getD, List.getElem?_eq_getElem (by rw [h.sp.len]; exact hb)]; rfl
    rw [e]; congr 1
    have hfb := hf b
    rw [← fedB_iff] at hfb
    cases hm : markS s b
    · have hn : fedB (edgesOn ls ts) us b = false := by
        rw [Bool.eq_false_iff]; intro q; rw [hfb.2 q] at hm; cases hm
      rw [h.sp.un b hm, feedOf_none hn, wayF_unfed hn]; rfl
    · obtain ⟨ws, hw, ew⟩ := h.sp.gr.way hm
      obtain ⟨f, e1, e2, e3⟩ := h.sp.fe b hm
      rw [feedOf_some ho e2 e3 hu, wayF_of ha ho hw]
      exact Prod.ext e1 ew
  · rw [List.getElem?_eq_none (by rw [h.sp.len]; exact hb), List.getElem?_eq_none (by rw [supF_len]; exact hb)]
end
/-! In which order buses are marked: each behind the one that it is fed through. -/
structure Hist (ls : List L3) (ts : List Bool) (s : List U2) (dq : List Nat) : Prop where
  nd : dq.Nodup
  me : ∀ b, markS s b = true ↔ b ∈ dq
  pa : ∀ i y k u, dq[i]? = some y → lineS s y = ((k : Nat) : Int) → Ln ls ts k u y → u ∈ dq.take i
section
variable {ls : List L3} {ts : List Bool} {us : List U2} {nb k x y : Nat} {s : List U2} {dq : List Nat}
theorem hist_mark (h : Hist ls ts s dq) (hx : markS s x = true) (hl : Ln ls ts k x y) (hn : markS s y = false) (hy : y < s.length) : Hist ls ts (s.set y ((supAt s x).1, (k : Int))) (dq ++ [y]) := by
  have hx0 : 0 ≤ (supAt s x).1 := by simpa [markS] using hx
  have es := supAt_set (s := s) hy ((supAt s x).1, (k : Int))
  have em : ∀ b, markS (s.set y ((supAt s x).1, (k : Int))) b = if b = y then true else markS s b := fun b => by
    unfold markS; rw [es]; split
    · simpa using hx0
    · rfl
  have ep : ∀ b, lineS (s.set y ((supAt s x).1, (k : Int))) b = if b = y then (k : Int) else lineS s b := fun b => by
    unfold lineS; rw [es]; split <;> rfl
  have hxy : x ≠ y := fun e => by rw [e, hn] at hx; cases hx
  have hyd : y ∉ dq := fun hm => by rw [(h.me y).2 hm] at hn; cases hn
  refine ⟨?_, fun b => ?_, fun i z j u hi hp hlz => ?_⟩
  · rw [List.nodup_append]
    refine ⟨h.nd, by simp, fun a ha b hb e => ?_⟩
    obtain rfl : b = y := by simpa using hb
    subst e; exact hyd ha
  · rw [em, List.mem_append]
    by_cases e : b = y
    · subst e; simp
    · rw [if_neg e, h.me]; simp [e]
  · rcases Nat.lt_or_ge i dq.length with hlt | hge
    · rw [List.getElem?_append_left hlt] at hi
      rw [List.take_append_of_le_length (by omega)]
      have hz : z ≠ y := fun e => hyd (e ▸ List.mem_of_getElem? hi)
      rw [ep, if_neg hz] at hp
      exact h.pa i z j u hi hp hlz
    · have hi2 : i < dq.length + 1 := by simpa using (List.getElem?_eq_some_iff.1 hi).1
      obtain rfl : i = dq.length := by omega
      rw [List.getElem?_append_right (Nat.le_refl _), Nat.sub_self] at hi
      obtain rfl : y = z := by simpa using hi
      rw [ep, if_pos rfl] at hp
      obtain rfl : k = j := by omega
      have hu : u = x := by
        rcases Ln.two hl hlz with ⟨e1, _⟩ | ⟨_, e1⟩
        · exact e1
        · exact absurd e1.symm hxy
      subst hu
      rw [List.take_append_of_le_length (Nat.le_refl _), List.take_length]
      exact (h.me u).1 hx
theorem feedsTo_mem (hu : us.length = nb) (b : Nat) : b ∈ feedsTo us nb ↔ 0 < fd us b := by
  rw [feedsTo, List.mem_filter, List.mem_range, decide_eq_true_eq]
  exact ⟨fun h => h.2, fun h => ⟨by have := fd_lt h; omega, h⟩⟩
theorem hist_start (hu : us.length = nb) : Hist ls ts (sup0 us nb nb) (feedsTo us nb) := by
  have e : ∀ b, supAt (sup0 us nb nb) b = if 0 < fd us b then ((b : Int), -1) else (-1, -1) := fun b => by
    rcases Nat.lt_or_ge b nb with hb | hb
    · rw [supAt_get (sup0_get hb), if_pos hb]
    · unfold supAt
      rw [List.getD_eq_getElem?_getD, List.getElem?_eq_none (by rw [sup0_len]; exact hb), if_neg fun h => absurd (fd_lt h) (by omega)]; rfl
  refine ⟨List.Pairwise.filter _ List.nodup_range, fun b => ?_, fun i y k u _ hp _ => ?_⟩
  · rw [feedsTo_mem hu, markS, e]
    by_cases h : 0 < fd us b
    · simp [h]
    · simp [h]
  · rw [lineS, e] at hp
    split at hp <;> simp at hp <;> omega
theorem conn_lt {m a b : Nat} (hs : stOk nb ls m = true) (ha : a < nb) (h : Conn (edgesOn ls ts) a b) : b < nb := by
  refine Conn.closed (p := fun x => x < nb) (fun e he => ?_) h ha
  obtain ⟨j, hj⟩ := (adj_ln (u := e.1) (v := e.2)).1 (.inl he)
  have h1 := hj.lt (stOk_net hs)
  have h2 := hj.symm.lt (stOk_net hs)
  exact ⟨fun _ => by omega, fun _ => by omega⟩
/-- Then: all that are fed, each once, each behind the one that it is fed through. -/
structure Ord (ls : List L3) (ts : List Bool) (us : List U2) (zs : List Nat) : Prop where
  nd : zs.Nodup
  me : ∀ b, b ∈ zs ↔ ∃ f, 0 < fd us f ∧ Conn (edgesOn ls ts) f b
  pa : ∀ i y k ws u, zs[i]? = some y → wayF ls ts us y = k :: ws → Ln ls ts k u y → u ∈ zs.take i
theorem hist_end (ho : OneFeed (edgesOn ls ts) us) (hu : us.length = nb) (hb : ∀ b, (∃ f, 0 < fd us f ∧ Conn (edgesOn ls ts) f b) → b < nb) (h : Hist ls ts (supF ls ts us nb) dq) : Ord ls ts us dq := by
  have e : ∀ b, b < nb → supAt (supF ls ts us nb) b = (feedOf (edgesOn ls ts) nb us b, hd1 (wayF ls ts us b)) := fun b hb => supAt_get (supF_get hb)
  refine ⟨h.nd, fun b => ?_, fun i y k ws u hi hw hl => h.pa i y k u hi ?_ hl⟩
  · rw [← h.me]
    constructor
    · intro hm
      have hlt : b < nb := by
        rcases Nat.lt_or_ge b nb with q | q
        · exact q
        · unfold markS supAt at hm
          rw [List.getD_eq_getElem?_getD, List.getElem?_eq_none (by rw [supF_len]; exact q)] at hm
          simp at hm
      unfold markS at hm
      rw [e b hlt] at hm
      refine fedB_iff.1 ?_
      cases q : fedB (edgesOn ls ts) us b
      · rw [feedOf_none q] at hm; simp at hm
      · rfl
    · intro hf
      have hlt := hb b hf
      obtain ⟨f, h1, h2⟩ := hf
      rw [markS, e b hlt, feedOf_some ho h1 h2 hu]
      simp
  · have hy : y < nb := by
      have hm := (h.me y).2 (List.mem_of_getElem? hi)
      rcases Nat.lt_or_ge y nb with q | q
      · exact q
      · unfold markS supAt at hm
        rw [List.getD_eq_getElem?_getD, List.getElem?_eq_none (by rw [supF_len]; exact q)] at hm
        simp at hm
    rw [lineS, e y hy, hw]; rfl
end
end Go.Proofs.YtbhlkcnkijihcaaDoor
