/- Radial networks, plain facts: a search from all feeds at once, with a queue. -/
import Derived.Test.YtcfnkjblhhmbeaaDoorF1
namespace Go.Proofs.YtcfnkjblhhmbeaaDoor
open Go.RowKit

def supAt (s : List U2) (b : Nat) : U2 := s.getD b (-1, -1)
def markS (s : List U2) (b : Nat) : Bool := decide (0 ≤ (supAt s b).1)
def lineS (s : List U2) (b : Nat) : Int := (supAt s b).2
theorem supAt_get {s : List U2} {b : Nat} {u : U2} (h : s[b]? = some u) : supAt s b = u := by rw [supAt, List.getD_eq_getElem?_getD, h]; rfl
theorem supAt_set {s : List U2} {b : Nat} (hb : b < s.length) (z : U2) (c : Nat) : supAt (s.set b z) c = if c = b then z else supAt s c := by
  unfold supAt
  simp only [List.getD_eq_getElem?_getD, List.getElem?_set]
  by_cases e : b = c
  · subst e; simp [hb]
  · rw [if_neg e, if_neg (fun e2 => e e2.symm)]
structure Sup (ls : List L3) (ts : List Bool) (us : List U2) (nb : Nat) (s : List U2) : Prop where
  len : s.length = nb
  gr : Grow ls ts us (markS s) (lineS s)
  fe : ∀ b, markS s b = true → ∃ f : Nat, (supAt s b).1 = (f : Int) ∧ 0 < fd us f ∧ Conn (edgesOn ls ts) f b
  un : ∀ b, markS s b = false → supAt s b = (-1, -1)
/-- Between two rounds: q the buses from which the search goes on. -/
structure Queue (ls : List L3) (ts : List Bool) (us : List U2) (nb : Nat) (s : List U2) (q : List Nat) : Prop where
  sp : Sup ls ts us nb s
  qm : ∀ b ∈ q, markS s b = true
  nd : q.Nodup
  ch : ∀ y k u, markS s y = true → lineS s y = ((k : Nat) : Int) → Ln ls ts k u y → u ∉ q
  cl : ∀ u v k, markS s u = true → u ∉ q → Ln ls ts k u v → markS s v = true
/-- Within a round: the search goes on from x, along the lines of dn so far. -/
structure Work (ls : List L3) (ts : List Bool) (us : List U2) (nb : Nat) (s : List U2) (x : Nat) (dn : Nat → Prop) (q : List Nat) : Prop where
  sp : Sup ls ts us nb s
  mx : markS s x = true
  qm : ∀ b ∈ q, markS s b = true ∧ b ≠ x
  nd : q.Nodup
  ch : ∀ y k u, markS s y = true → lineS s y = ((k : Nat) : Int) → Ln ls ts k u y → u ∉ q ∧ (u = x → dn k)
  cl : ∀ u v k, markS s u = true → u ∉ q → (u = x → dn k) → Ln ls ts k u v → markS s v = true
section
variable {ls : List L3} {ts : List Bool} {us : List U2} {nb k x y : Nat} {s : List U2} {dn : Nat → Prop} {q : List Nat}
theorem work_start (h : Queue ls ts us nb s (x :: q)) : Work ls ts us nb s x (fun _ => False) q := by
  obtain ⟨n1, n2⟩ := List.nodup_cons.1 h.nd
  refine ⟨h.sp, h.qm x (by simp), fun b hb => ⟨h.qm b (by simp [hb]), fun e => n1 (e ▸ hb)⟩, n2, fun y k u hm hp hl => ?_, fun u v k hm hu hx hl => ?_⟩
  · have := h.ch y k u hm hp hl
    simp only [List.mem_cons, not_or] at this
    exact ⟨this.2, this.1⟩
  · refine h.cl u v k hm ?_ hl
    simp only [List.mem_cons, not_or]
    exact ⟨hx, hu⟩
theorem work_end (h : Work ls ts us nb s x dn q) (hd : ∀ k v, Ln ls ts k x v → dn k) : Queue ls ts us nb s q :=
  ⟨h.sp, fun b hb => (h.qm b hb).1, h.nd, fun y k u hm hp hl => (h.ch y k u hm hp hl).1, fun u v k hm hu hl => h.cl u v k hm hu (fun e => by subst e; exact hd k v hl) hl⟩
theorem work_iff {dn' : Nat → Prop} (h : Work ls ts us nb s x dn q) (e : ∀ k, dn k ↔ dn' k) : Work ls ts us nb s x dn' q :=
  ⟨h.sp, h.mx, h.qm, h.nd, fun y k u hm hp hl => ⟨(h.ch y k u hm hp hl).1, fun e2 => (e k).1 ((h.ch y k u hm hp hl).2 e2)⟩, fun u v k hm hu hx hl => h.cl u v k hm hu (fun e2 => (e k).2 (hx e2)) hl⟩
theorem work_skip (h : Work ls ts us nb s x dn q) (hs : ∀ v, Ln ls ts k x v → (k : Int) = lineS s x) : Work ls ts us nb s x (fun j => dn j ∨ j = k) q := by
  refine ⟨h.sp, h.mx, h.qm, h.nd, fun y j u hm hp hl => ⟨(h.ch y j u hm hp hl).1, fun e => .inl ((h.ch y j u hm hp hl).2 e)⟩, fun u v j hm hu hx hl => ?_⟩
  by_cases e : u = x ∧ j = k
  · obtain ⟨rfl, rfl⟩ := e
    have e2 := hs v hl
    by_cases hf : 0 < fd us u
    · have := (h.sp.gr.fe u hf).2; omega
    · obtain ⟨k', o, ws, e3, hl', ho, _⟩ := h.sp.gr.pa u hm hf
      obtain rfl : j = k' := by omega
      rcases Ln.two hl hl' with ⟨e4, _⟩ | ⟨e4, _⟩
      · -- the line's other end is the bus itself: o = u, u = v
        rename_i e5; rw [← e5]; exact hm
      · rw [← e4]; exact ho
  · refine h.cl u v j hm hu (fun e2 => ?_) hl
    rcases hx e2 with q | q
    · exact q
    · exact absurd ⟨e2, q⟩ e
/-- What a line of x leads to that is neither the line of x nor done is not marked yet: there is no cycle. -/
theorem work_new (ha : Acyc ls ts) (ho : OneFeed (edgesOn ls ts) us) (h : Work ls ts us nb s x dn q) (hl : Ln ls ts k x y) (hk : (k : Int) ≠ lineS s x) (hd : ¬ dn k) : markS s y = false := by
  rw [Bool.eq_false_iff]; intro hy
  obtain ⟨ws, hw, ew⟩ := h.sp.gr.way h.mx
  obtain ⟨vs, hv, ev⟩ := h.sp.gr.way hy
  have key : ∀ {us' b}, Way ls ts us b us' → k ∈ us' → False := by
    intro us' b hb hm
    obtain ⟨b', o, ws', hw', hl', _⟩ := hb.at_ k hm
    rcases Ln.two hl hl' with ⟨_, rfl⟩ | ⟨_, rfl⟩
    · have e := Way.one ha ho hv hw'
      subst e
      exact hd ((h.ch _ k x hy ev hl).2 rfl)
    · have e := Way.one ha ho hw hw'
      subst e
      exact hk ew.symm
  have out : ∀ {us' b}, Way ls ts us b us' → ∃ f, 0 < fd us f ∧ CW ls ts k f b := by
    intro us' b hb
    refine Classical.byContradiction fun hn => key hb ((hb.mem ha ho k).2 fun f hf hc => hn ⟨f, hf, hc⟩)
  obtain ⟨f, hf, hc⟩ := out hw
  obtain ⟨f', hf', hc'⟩ := out hv
  have e := ho _ _ hf hf' ((hc.conn.trans hl.conn).trans hc'.conn.symm)
  subst e
  exact ha k x y hl (hc.symm.trans hc')
theorem work_mark (ha : Acyc ls ts) (ho : OneFeed (edgesOn ls ts) us) (h : Work ls ts us nb s x dn q) (hl : Ln ls ts k x y) (hk : (k : Int) ≠ lineS s x) (hd : ¬ dn k) (hy : y < nb) :
    Work ls ts us nb (s.set y ((supAt s x).1, (k : Int))) x (fun j => dn j ∨ j = k) (q ++ [y]) ∧ leftM (markS (s.set y ((supAt s x).1, (k : Int)))) nb + 1 ≤ leftM (markS s) nb ∧ supAt (s.set y ((supAt s x).1, (k : Int))) x = supAt s x := by
  have hn := work_new ha ho h hl hk hd
  have hyl : y < s.length := by rw [h.sp.len]; exact hy
  have hxy : x ≠ y := fun e => by have := h.mx; rw [e, hn] at this; cases this
  have hx0 : 0 ≤ (supAt s x).1 := by simpa [markS] using h.mx
  have es := supAt_set (s := s) hyl ((supAt s x).1, (k : Int))
  have em : ∀ b, markS (s.set y ((supAt s x).1, (k : Int))) b = if b = y then true else markS s b := fun b => by
    unfold markS; rw [es]; split
    · simpa using hx0
    · rfl
  have ep : ∀ b, lineS (s.set y ((supAt s x).1, (k : Int))) b = if b = y then (k : Int) else lineS s b := fun b => by
    unfold lineS; rw [es]; split <;> rfl
  have hgr := h.sp.gr.mark hl h.mx hn em ep
  have hyq : y ∉ q := fun hq => by rw [(h.qm y hq).1] at hn; cases hn
  have hsx : supAt (s.set y ((supAt s x).1, (k : Int))) x = supAt s x := by rw [es, if_neg hxy]
  have hlm := leftM_mark hn hy em
  have hlen : (s.set y ((supAt s x).1, (k : Int))).length = nb := by rw [List.length_set]; exact h.sp.len
  generalize s.set y ((supAt s x).1, (k : Int)) = s' at *
  have sub : ∀ {b}, b ≠ y → markS s' b = true → markS s b = true := fun {b} e hb => by rw [em, if_neg e] at hb; exact hb
  have up : ∀ {b}, markS s b = true → markS s' b = true := fun {b} hb => by rw [em]; split <;> simp [hb]
  refine ⟨⟨⟨?_, hgr, fun b hb => ?_, fun b hb => ?_⟩, up h.mx, fun b hb => ?_, ?_, fun c j u hm hp hlc => ?_, fun u v j hm hu hx hlc => ?_⟩, hlm, hsx⟩
  · exact hlen
  · by_cases e : b = y
    · subst e
      obtain ⟨f, e1, e2, e3⟩ := h.sp.fe x h.mx
      exact ⟨f, by rw [es, if_pos rfl]; exact e1, e2, e3.trans hl.conn⟩
    · obtain ⟨f, e1, e2, e3⟩ := h.sp.fe b (sub e hb)
      exact ⟨f, by rw [es, if_neg e]; exact e1, e2, e3⟩
  · rw [em] at hb
    by_cases e : b = y
    · rw [if_pos e] at hb; cases hb
    · rw [if_neg e] at hb; rw [es, if_neg e]; exact h.sp.un b hb
  · rcases List.mem_append.1 hb with hb | hb
    · exact ⟨up (h.qm b hb).1, (h.qm b hb).2⟩
    · obtain rfl : b = y := by simpa using hb
      exact ⟨by rw [em, if_pos rfl], fun e => hxy e.symm⟩
  · rw [List.nodup_append]
    refine ⟨h.nd, by simp, fun a ha b hb e => ?_⟩
    obtain rfl : b = y := by simpa using hb
    subst e; exact hyq ha
  · by_cases e : c = y
    · subst e
      rw [ep, if_pos rfl] at hp
      obtain rfl : k = j := by omega
      have hu : u = x := by
        rcases Ln.two hl hlc with ⟨e1, _⟩ | ⟨_, e1⟩
        · exact e1
        · exact absurd e1.symm hxy
      subst hu
      refine ⟨fun hq => ?_, fun _ => .inr rfl⟩
      rcases List.mem_append.1 hq with hq | hq
      · exact (h.qm u hq).2 rfl
      · exact hxy (by simpa using hq)
    · rw [ep, if_neg e] at hp
      obtain ⟨q1, q2⟩ := h.ch c j u (sub e hm) hp hlc
      refine ⟨fun hq => ?_, fun e2 => .inl (q2 e2)⟩
      rcases List.mem_append.1 hq with hq | hq
      · exact q1 hq
      · -- y has no bus behind it yet: the other end of a marked bus's line is marked
        obtain rfl : u = y := by simpa using hq
        have hmc := sub e hm
        by_cases hf : 0 < fd us c
        · have := (h.sp.gr.fe c hf).2; omega
        · obtain ⟨k', o, ws, e3, hl', hmo, _⟩ := h.sp.gr.pa c hmc hf
          obtain rfl : j = k' := by omega
          rcases Ln.two hlc hl' with ⟨e4, _⟩ | ⟨_, e4⟩
          · rw [e4, hn] at hmo; cases hmo
          · exact e e4
  · by_cases e : u = y
    · subst e
      exact absurd (List.mem_append_right q (by simp)) hu
    · have hu2 : u ∉ q := fun hq => hu (List.mem_append_left _ hq)
      by_cases e2 : u = x ∧ j = k
      · obtain ⟨rfl, rfl⟩ := e2
        have hv : v = y := by
          rcases Ln.two hl hlc with ⟨_, e1⟩ | ⟨e1, _⟩
          · exact e1
          · exact absurd e1 hxy
        rw [em, if_pos hv]
      · refine up (h.cl u v j (sub e hm) hu2 (fun e3 => ?_) hlc)
        rcases hx e3 with q | q
        · exact q
        · exact absurd ⟨e3, q⟩ e2
/-- At the start: k of the buses are laid. -/
def sup0 (us : List U2) (nb k : Nat) : List U2 := (List.range nb).map fun b => if b < k then (if 0 < fd us b then ((b : Int), -1) else (-1, -1)) else (0, 0)
theorem sup0_len (us : List U2) (nb k : Nat) : (sup0 us nb k).length = nb := by simp [sup0]
theorem sup0_get {us : List U2} {nb k b : Nat} (hb : b < nb) : (sup0 us nb k)[b]? = some (if b < k then (if 0 < fd us b then ((b : Int), -1) else (-1, -1)) else (0, 0)) := by
  rw [sup0, List.getElem?_map, List.getElem?_range hb]; rfl
theorem sup0_zero (us : List U2) (nb : Nat) : sup0 us nb 0 = List.replicate nb (0, 0) := by
  apply List.ext_getElem?
  intro b
  rcases Nat.lt_or_ge b nb with hb | hb
  · rw [sup0_get hb, List.getElem?_replicate, if_pos hb]; simp
  · rw [List.getElem?_eq_none (by rw [sup0_len]; exact hb), List.getElem?_eq_none (by simpa using hb)]
theorem sup0_succ {us : List U2} {nb k : Nat} : sup0 us nb (k + 1) = (sup0 us nb k).set k (if 0 < fd us k then ((k : Int), -1) else (-1, -1)) := by
  apply List.ext_getElem?
  intro b
  rcases Nat.lt_or_ge b nb with hb | hb
  · rw [sup0_get hb, List.getElem?_set]
    by_cases e : k = b
    · subst e; simp [sup0_len, hb]
    · rw [if_neg e, sup0_get hb]
      congr 1
      by_cases h : b < k
      · rw [if_pos h, if_pos (by omega)]
      · rw [if_neg h, if_neg (by omega)]
  · rw [List.getElem?_eq_none (by rw [sup0_len]; exact hb), List.getElem?_eq_none (by rw [List.length_set, sup0_len]; exact hb)]
def feedsTo (us : List U2) (k : Nat) : List Nat := (List.range k).filter fun b => decide (0 < fd us b)
theorem feedsTo_yes {us : List U2} {k : Nat} (h : 0 < fd us k) : feedsTo us (k + 1) = feedsTo us k ++ [k] := by
  unfold feedsTo; rw [List.range_succ, List.filter_append]; simp [h]
theorem feedsTo_no {us : List U2} {k : Nat} (h : ¬ 0 < fd us k) : feedsTo us (k + 1) = feedsTo us k := by
  unfold feedsTo; rw [List.range_succ, List.filter_append]; simp [h]
theorem feedsTo_len (us : List U2) (k : Nat) : (feedsTo us k).length ≤ k := Nat.le_trans (List.length_filter_le _ _) (by simp)
theorem queue_start (hu : us.length = nb) : Queue ls ts us nb (sup0 us nb nb) (feedsTo us nb) := by
  have e : ∀ b, supAt (sup0 us nb nb) b = if 0 < fd us b then ((b : Int), -1) else (-1, -1) := fun b => by
    rcases Nat.lt_or_ge b nb with hb | hb
    · rw [supAt_get (sup0_get hb), if_pos hb]
    · unfold supAt
      rw [List.getD_eq_getElem?_getD, List.getElem?_eq_none (by rw [sup0_len]; exact hb), if_neg fun h => absurd (fd_lt h) (by omega)]; rfl
  have hm : ∀ b, markS (sup0 us nb nb) b = true → 0 < fd us b := fun b hb => by
    unfold markS at hb; rw [e] at hb
    by_cases h : 0 < fd us b
    · exact h
    · rw [if_neg h] at hb; simp at hb
  have hf : ∀ b, 0 < fd us b → markS (sup0 us nb nb) b = true ∧ lineS (sup0 us nb nb) b = -1 := fun b hb => by
    unfold markS lineS; rw [e, if_pos hb]; exact ⟨by simp, rfl⟩
  have hq : ∀ b, b ∈ feedsTo us nb ↔ 0 < fd us b := fun b => by
    rw [feedsTo, List.mem_filter, List.mem_range, decide_eq_true_eq]
    exact ⟨fun h => h.2, fun h => ⟨by have := fd_lt h; omega, h⟩⟩
  refine ⟨⟨sup0_len us nb nb, grow_start hf hm, fun b hb => ⟨b, by rw [e, if_pos (hm b hb)], hm b hb, Conn.refl _⟩, fun b hb => ?_⟩, fun b hb => (hf b ((hq b).1 hb)).1, List.Pairwise.filter _ List.nodup_range, fun y k u hy hp hl => ?_, fun u v k hmu hu hl => absurd ((hq u).2 (hm u hmu)) hu⟩
  · by_cases h : 0 < fd us b
    · rw [(hf b h).1] at hb; cases hb
    · rw [e, if_neg h]
  · have := (hf y (hm y hy)).2; omega
noncomputable def supF (ls : List L3) (ts : List Bool) (us : List U2) (nb : Nat) : List U2 := (List.range nb).map fun b => (feedOf (edgesOn ls ts) nb us b, hd1 (wayF ls ts us b))
theorem supF_len : (supF ls ts us nb).length = nb := by simp [supF]
theorem supF_get {b : Nat} (hb : b < nb) : (supF ls ts us nb)[b]? = some (feedOf (edgesOn ls ts) nb us b, hd1 (wayF ls ts us b)) := by
  rw [supF, List.getElem?_map, List.getElem?_range hb]; rfl
theorem queue_end (ha : Acyc ls ts) (ho : OneFeed (edgesOn ls ts) us) (hu : us.length = nb) (h : Queue ls ts us nb s []) : s = supF ls ts us nb := by
  have hf := h.sp.gr.fed (fun k u v hl hm => h.cl u v k hm (by simp) hl)
  apply List.ext_getElem?
  intro b
  rcases Nat.lt_or_ge b nb with hb | hb
  · rw [supF_get hb]
    have e : s[b]? = some (supAt s b) := by unfold supAt; rw [List.getD_eq_getElem?_getD, List.getElem?_eq_getElem (by rw [h.sp.len]; exact hb)]; rfl
    rw [e]; congr 1
    have hfb := hf b
    rw [← fedB_iff] at hfb
    cases hm : markS s b
    · have hn : fedB (edgesOn ls ts) us b = false := by
        rw [Bool.eq_false_iff]; intro q; rw [hfb.2 q] at hm; cases hm
      rw [h.sp.un b hm, feedOf_none hn, wayF_unfed hn]; rfl
    · obtain ⟨ws, hw, ew⟩ := h.sp.gr.way hm
      obtain ⟨f, e1, e2, e3⟩ := h.sp.fe b hm
      rw [feedOf_some ho e2 e3 hu, wayF_of ha ho hw]
      exact Prod.ext e1 ew
  · rw [List.getElem?_eq_none (by rw [h.sp.len]; exact hb), List.getElem?_eq_none (by rw [supF_len]; exact hb)]
end
end Go.Proofs.YtcfnkjblhhmbeaaDoor
