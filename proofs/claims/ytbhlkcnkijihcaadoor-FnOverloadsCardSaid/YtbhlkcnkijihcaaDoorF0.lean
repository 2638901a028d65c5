/- Radial networks, plain facts: ways from the feeds, and the line by which a bus is fed. -/
import Derived.Test.YtbhlkcnkijihcaaDoorP1
import Derived.Test.YtbhlkcnkijihcaaDoorBPC
namespace Go.Proofs.YtbhlkcnkijihcaaDoor
open Go.RowKit

/-- No line that is on joins what is joined without it. -/
def Acyc (ls : List L3) (ts : List Bool) : Prop := ∀ k u v, Ln ls ts k u v → ¬ CW ls ts k u v
/-- No two feeds are joined. -/
def OneFeed (es : List E2) (us : List U2) : Prop := ∀ b c, 0 < fd us b → 0 < fd us c → Conn es b c → b = c
/-- The way from a feed to a bus, the line at the bus first. -/
inductive Way (ls : List L3) (ts : List Bool) (us : List U2) : Nat → List Nat → Prop
  | feed {b : Nat} : 0 < fd us b → Way ls ts us b []
  | step {k o b : Nat} {ws : List Nat} : Way ls ts us o ws → Ln ls ts k o b → (∃ f, 0 < fd us f ∧ CW ls ts k f o) → Way ls ts us b (k :: ws)
def hd1 : List Nat → Int
  | [] => -1
  | k :: _ => (k : Int)
section
variable {bs : Int} {ls : List L3} {ts : List Bool} {us : List U2} {k o b j u v : Nat} {ws : List Nat}
theorem adj_ln : Adj (edgesOn ls ts) u v ↔ ∃ j, Ln ls ts j u v := by
  unfold Adj
  rw [mem_edgesOn, mem_edgesOn]
  constructor
  · rintro (⟨j, l, h1, h2, h3⟩ | ⟨j, l, h1, h2, h3⟩)
    · injection h3 with e1 e2
      exact ⟨j, l, h1, h2, .inl ⟨e1, e2⟩⟩
    · injection h3 with e1 e2
      exact ⟨j, l, h1, h2, .inr ⟨e2, e1⟩⟩
  · rintro ⟨j, l, h1, h2, h3⟩
    rcases h3 with ⟨rfl, rfl⟩ | ⟨rfl, rfl⟩
    · exact .inl ⟨j, l, h1, h2, rfl⟩
    · exact .inr ⟨j, l, h1, h2, rfl⟩
theorem Ln.conn (h : Ln ls ts k u v) : Conn (edgesOn ls ts) u v := Conn.one (adj_ln.2 ⟨k, h⟩)
theorem CW.conn {x y : Nat} (h : CW ls ts k x y) : Conn (edgesOn ls ts) x y := by
  refine conn_mono (fun j hj => ?_) h
  by_cases e : k = j
  · subst e
    rw [List.getElem?_set] at hj
    simp at hj
  · rwa [List.getElem?_set_ne e] at hj
theorem acyc_of (hs : stOk bs ls ts.length = true) (h : hasF bs ls ts = false) : Acyc ls ts := by
  intro k u v hl hc
  have hk := hl.len
  obtain ⟨l, h1, h2, h3⟩ := hl
  have hcy : cycB ls ts k = true := by
    rw [cycB_at h1 h2, Bool.true_and, connB_iff]
    rcases h3 with ⟨rfl, rfl⟩ | ⟨rfl, rfl⟩
    · exact hc
    · exact Conn.symm hc
  have hm : k ∈ linTo ls ts false ts.length := List.mem_filter.2 ⟨List.mem_range.2 hk, by simp [linB, hcy]⟩
  rw [hasF, linF_of hs, ofN_len, decide_eq_false_iff_not] at h
  exact h (List.length_pos_of_mem hm)
theorem acyc_has (hs : stOk bs ls ts.length = true) (h : Acyc ls ts) : hasF bs ls ts = false := by
  rw [hasF, linF_of hs, ofN_len, decide_eq_false_iff_not]
  intro hpos
  obtain ⟨k, hk⟩ := List.exists_mem_of_length_pos hpos
  obtain ⟨_, hk2⟩ := List.mem_filter.1 hk
  have hk2 : cycB ls ts k = true := by simpa [linB] using hk2
  rw [cycB, Bool.and_eq_true] at hk2
  obtain ⟨e1, e2⟩ := hk2
  rcases hl : ls[k]? with _ | l
  · rw [hl] at e2; cases e2
  · rw [hl] at e2
    exact h k _ _ ⟨l, hl, getD_true e1, .inl ⟨rfl, rfl⟩⟩ (connB_iff.1 e2)
/-- With lines off there are fewer lines. -/
theorem ln_off (h : Ln ls (ts.set j false) k u v) : Ln ls ts k u v ∧ k ≠ j := by
  obtain ⟨l, h1, h2, h3⟩ := h
  by_cases e : j = k
  · subst e
    rw [List.getElem?_set] at h2
    simp at h2
  · rw [List.getElem?_set_ne e] at h2
    exact ⟨⟨l, h1, h2, h3⟩, fun e2 => e e2.symm⟩
theorem Acyc.off (h : Acyc ls ts) (j : Nat) : Acyc ls (ts.set j false) := by
  intro k u v hl hc
  obtain ⟨h1, h2⟩ := ln_off hl
  refine h k u v h1 ?_
  refine Conn.mono hc fun x y hxy => ?_
  obtain ⟨i, hi, hl2⟩ := adj_cw.1 hxy
  exact adj_cw.2 ⟨i, hi, (ln_off hl2).1⟩
theorem OneFeed.off (h : OneFeed (edgesOn ls ts) us) (j : Nat) : OneFeed (edgesOn ls (ts.set j false)) us :=
  fun b c hb hc hcc => h b c hb hc (CW.conn (k := j) hcc)

theorem Way.fed (h : Way ls ts us b ws) : ∃ f, 0 < fd us f ∧ Conn (edgesOn ls ts) f b := by
  induction h with
  | feed hb => exact ⟨_, hb, Conn.refl _⟩
  | step _ hl _ ih =>
    obtain ⟨f, hf, hc⟩ := ih
    exact ⟨f, hf, hc.trans hl.conn⟩
theorem feed_out (ha : Acyc ls ts) {f : Nat} (hl : Ln ls ts k o b) (hc : CW ls ts k f o) : ¬ CW ls ts k f b := fun h => ha k o b hl (hc.symm.trans h)
theorem par_one (ha : Acyc ls ts) (ho : OneFeed (edgesOn ls ts) us) {k' o' : Nat} (hl : Ln ls ts k o b) (hc : ∃ f, 0 < fd us f ∧ CW ls ts k f o) (hl' : Ln ls ts k' o' b) (hc' : ∃ f, 0 < fd us f ∧ CW ls ts k' f o') : k = k' ∧ o = o' := by
  obtain ⟨f, hf, hc⟩ := hc
  obtain ⟨f', hf', hc'⟩ := hc'
  have e : f' = f := ho _ _ hf' hf ((hc'.conn.trans hl'.conn).trans (hc.conn.trans hl.conn).symm)
  subst e
  have n1 := feed_out ha hl hc
  have n2 := feed_out ha hl' hc'
  by_cases hk : k = k'
  · subst hk
    refine ⟨rfl, ?_⟩
    rcases Ln.two hl hl' with ⟨e1, _⟩ | ⟨e1, _⟩
    · exact e1.symm
    · subst e1; exact absurd hc' n1
  · exfalso
    have key : CW ls ts k' f' o' ∧ (CW ls ts k f' o' ∨ CW ls ts k' f' b) := by
      refine CW.closed (p := fun x => CW ls ts k' f' x ∧ (CW ls ts k f' x ∨ CW ls ts k' f' b)) hc' ?_ ⟨CW.refl _, .inl (CW.refl _)⟩
      rintro j u v hj hl2 ⟨q1, q2⟩
      have q3 : CW ls ts k' f' v := q1.trans (hl2.cw hj)
      refine ⟨q3, ?_⟩
      rcases q2 with q2 | q2
      · by_cases e : j = k
        · subst e
          rcases Ln.two hl hl2 with ⟨rfl, rfl⟩ | ⟨rfl, rfl⟩
          · exact .inr q3
          · exact absurd q2 n1
        · exact .inl (q2.trans (hl2.cw e))
      · exact .inr q2
    rcases key.2 with q | q
    · exact n1 (q.trans (hl'.cw (fun e => hk e.symm)))
    · exact n2 q
theorem Way.one (ha : Acyc ls ts) (ho : OneFeed (edgesOn ls ts) us) (h : Way ls ts us b ws) : ∀ {ws'}, Way ls ts us b ws' → ws = ws' := by
  induction h with
  | feed hb =>
    intro ws' h'
    cases h' with
    | feed _ => rfl
    | step hw hl hc =>
      obtain ⟨f, hf, hc⟩ := hc
      have e := ho _ _ hf hb (hc.conn.trans hl.conn)
      subst e
      exact absurd (CW.refl _) (feed_out ha hl hc)
  | step hw hl hc ih =>
    intro ws' h'
    cases h' with
    | feed hb =>
      obtain ⟨f, hf, hc⟩ := hc
      have e := ho _ _ hf hb (hc.conn.trans hl.conn)
      subst e
      exact absurd (CW.refl _) (feed_out ha hl hc)
    | step hw' hl' hc' =>
      obtain ⟨rfl, rfl⟩ := par_one ha ho hl hc hl' hc'
      rw [ih hw']
/-- A line is on the way exactly if the bus is fed by it. -/
theorem Way.mem (ha : Acyc ls ts) (ho : OneFeed (edgesOn ls ts) us) (j : Nat) (h : Way ls ts us b ws) : j ∈ ws ↔ ∀ f, 0 < fd us f → ¬ CW ls ts j f b := by
  induction h with
  | feed hb => exact ⟨fun h => (by cases h), fun h => absurd (CW.refl _) (h _ hb)⟩
  | @step k o b ws hw hl hc ih =>
    obtain ⟨f, hf, hc⟩ := hc
    by_cases e : k = j
    · subst e
      refine ⟨fun _ f' hf' hcw => ?_, fun _ => List.mem_cons_self⟩
      have e := ho _ _ hf' hf (hcw.conn.trans (hc.conn.trans hl.conn).symm)
      subst e
      exact feed_out ha hl hc hcw
    · constructor
      · intro hm f' hf' hcw
        rcases List.mem_cons.1 hm with e2 | hm
        · exact e e2.symm
        · exact ih.1 hm f' hf' (hcw.trans (hl.cw e).symm)
      · intro h2
        exact List.mem_cons_of_mem _ (ih.2 fun f' hf' hcw => h2 f' hf' (hcw.trans (hl.cw e)))
theorem Way.nodup (ha : Acyc ls ts) (ho : OneFeed (edgesOn ls ts) us) (h : Way ls ts us b ws) : ws.Nodup := by
  induction h with
  | feed hb => exact List.nodup_nil
  | step hw hl hc ih =>
    refine List.nodup_cons.2 ⟨fun hm => ?_, ih⟩
    obtain ⟨f, hf, hc⟩ := hc
    exact (hw.mem ha ho _).1 hm f hf hc
theorem Way.on (h : Way ls ts us b ws) : ∀ j ∈ ws, j < ts.length ∧ ts[j]? = some true := by
  induction h with
  | feed hb => intro j hj; cases hj
  | step hw hl hc ih =>
    intro j hj
    rcases List.mem_cons.1 hj with rfl | hj
    · refine ⟨hl.len, ?_⟩
      obtain ⟨l, _, h2, _⟩ := hl
      exact h2
    · exact ih j hj
theorem nodup_len : ∀ {n : Nat} {xs : List Nat}, xs.Nodup → (∀ x ∈ xs, x < n) → xs.length ≤ n
  | 0, [], _, _ => by simp
  | 0, x :: _, _, h => absurd (h x (by simp)) (by omega)
  | n + 1, xs, hd, h => by
    by_cases hm : n ∈ xs
    · have ih := nodup_len (n := n) (hd.erase n) (fun x hx => by
        obtain ⟨h1, h2⟩ := hd.mem_erase_iff.1 hx
        have := h x h2; omega)
      rw [List.length_erase_of_mem hm] at ih; omega
    · have ih := nodup_len (n := n) hd (fun x hx => by
        have h1 := h x hx
        have h2 : x ≠ n := fun e => hm (e ▸ hx)
        omega)
      omega
theorem Way.len (ha : Acyc ls ts) (ho : OneFeed (edgesOn ls ts) us) (h : Way ls ts us b ws) : ws.length ≤ ts.length :=
  nodup_len (h.nodup ha ho) (fun x hx => (h.on x hx).1)
/-- Each line of a way feeds some bus. -/
theorem Way.at_ (h : Way ls ts us b ws) : ∀ j ∈ ws, ∃ b' o ws', Way ls ts us b' (j :: ws') ∧ Ln ls ts j o b' ∧ ∃ f, 0 < fd us f ∧ CW ls ts j f o := by
  induction h with
  | feed hb => intro j hj; cases hj
  | step hw hl hc ih =>
    intro j hj
    rcases List.mem_cons.1 hj with rfl | hj
    · exact ⟨_, _, _, .step hw hl hc, hl, hc⟩
    · exact ih j hj
/-- The bus lies within bounds. -/
theorem fd_lt (h : 0 < fd us b) : b < us.length := by
  rcases Nat.lt_or_ge b us.length with h2 | h2
  · exact h2
  · rw [fd, List.getD_eq_getElem?_getD, List.getElem?_eq_none h2] at h; cases h

/-! Marks that grow: m the buses that are fed so far, p the line by which each is fed. -/
structure Grow (ls : List L3) (ts : List Bool) (us : List U2) (m : Nat → Bool) (p : Nat → Int) : Prop where
  fe : ∀ b, 0 < fd us b → m b = true ∧ p b = -1
  pa : ∀ b, m b = true → ¬ 0 < fd us b → ∃ (k o : Nat) (ws : List Nat), p b = (k : Int) ∧ Ln ls ts k o b ∧ m o = true ∧ Way ls ts us o ws ∧ ∃ f, 0 < fd us f ∧ CW ls ts k f o
  co : ∀ b, m b = true → ∃ f, 0 < fd us f ∧ ∀ k u v, Ln ls ts k u v → m v = false → CW ls ts k f b
theorem Grow.way {m : Nat → Bool} {p : Nat → Int} (h : Grow ls ts us m p) (hb : m b = true) : ∃ ws, Way ls ts us b ws ∧ p b = hd1 ws := by
  by_cases hf : 0 < fd us b
  · exact ⟨[], .feed hf, (h.fe b hf).2⟩
  · obtain ⟨k, o, ws, e, hl, _, hw, hc⟩ := h.pa b hb hf
    exact ⟨k :: ws, .step hw hl hc, e⟩
theorem grow_start {m : Nat → Bool} {p : Nat → Int} (h1 : ∀ b, 0 < fd us b → m b = true ∧ p b = -1) (h2 : ∀ b, m b = true → 0 < fd us b) : Grow ls ts us m p :=
  ⟨h1, fun b hb hn => absurd (h2 b hb) hn, fun b hb => ⟨b, h2 b hb, fun _ _ _ _ _ => CW.refl _⟩⟩
theorem Grow.mark {m m' : Nat → Bool} {p p' : Nat → Int} {x y : Nat} (h : Grow ls ts us m p) (hl : Ln ls ts k x y) (hx : m x = true) (hy : m y = false) (em : ∀ b, m' b = if b = y then true else m b) (ep : ∀ b, p' b = if b = y then (k : Int) else p b) : Grow ls ts us m' p' := by
  have hxy : x ≠ y := fun e => by rw [e, hy] at hx; cases hx
  have hm : ∀ {b}, m' b = false → b ≠ y ∧ m b = false := fun {b} hb => by
    rw [em] at hb
    by_cases e : b = y
    · rw [if_pos e] at hb; cases hb
    · rw [if_neg e] at hb; exact ⟨e, hb⟩
  have up : ∀ {b}, m b = true → m' b = true := fun {b} hb => by
    rw [em]; split
    · rfl
    · exact hb
  obtain ⟨f, hf, hcf⟩ := h.co x hx
  refine ⟨fun b hb => ?_, fun b hb hn => ?_, fun b hb => ?_⟩
  · obtain ⟨q1, q2⟩ := h.fe b hb
    have e : b ≠ y := fun e => by rw [e, hy] at q1; cases q1
    exact ⟨up q1, by rw [ep, if_neg e, q2]⟩
  · by_cases e : b = y
    · subst e
      obtain ⟨ws, hw, _⟩ := h.way hx
      exact ⟨k, x, ws, by rw [ep, if_pos rfl], hl, up hx, hw, f, hf, hcf k x b hl hy⟩
    · rw [em, if_neg e] at hb
      obtain ⟨k', o, ws, e', hl', ho, hw, hc⟩ := h.pa b hb hn
      exact ⟨k', o, ws, by rw [ep, if_neg e, e'], hl', up ho, hw, hc⟩
  · by_cases e : b = y
    · subst e
      refine ⟨f, hf, fun j u v hj hv => ?_⟩
      obtain ⟨v1, v2⟩ := hm hv
      refine (hcf j u v hj v2).trans (hl.cw fun e => ?_)
      subst e
      rcases Ln.two hl hj with ⟨_, e2⟩ | ⟨_, e2⟩
      · exact v1 e2
      · rw [e2, hx] at v2; cases v2
    · rw [em, if_neg e] at hb
      obtain ⟨f', hf', hc'⟩ := h.co b hb
      exact ⟨f', hf', fun j u v hj hv => hc' j u v hj (hm hv).2⟩
/-- What is closed is all that is fed. -/
theorem Grow.fed {m : Nat → Bool} {p : Nat → Int} (h : Grow ls ts us m p) (hc : ∀ k u v, Ln ls ts k u v → m u = true → m v = true) (b : Nat) : m b = true ↔ ∃ f, 0 < fd us f ∧ Conn (edgesOn ls ts) f b := by
  constructor
  · intro hb
    obtain ⟨ws, hw, _⟩ := h.way hb
    exact hw.fed
  · rintro ⟨f, hf, hcf⟩
    refine Conn.closed (p := fun x => m x = true) (fun e he => ?_) hcf (h.fe f hf).1
    obtain ⟨j, hj⟩ := (adj_ln (u := e.1) (v := e.2)).1 (.inl he)
    exact ⟨hc j _ _ hj, hc j _ _ hj.symm⟩
end

/-! The answers of chapter 6 -/
noncomputable def fedB (es : List E2) (us : List U2) (b : Nat) : Bool := @decide (∃ f, 0 < fd us f ∧ Conn es f b) (Classical.propDecidable _)
theorem fedB_iff {es : List E2} {us : List U2} {b : Nat} : fedB es us b = true ↔ ∃ f, 0 < fd us f ∧ Conn es f b := by
  unfold fedB; exact @decide_eq_true_iff _ (Classical.propDecidable _)
noncomputable def wayF (ls : List L3) (ts : List Bool) (us : List U2) (b : Nat) : List Nat := @dite _ (∃ ws, Way ls ts us b ws) (Classical.propDecidable _) (fun h => Classical.choose h) (fun _ => [])
noncomputable def radF (bs : Int) (ls : List L3) (ts : List Bool) (us : List U2) : Bool := okU bs ls ts.length us && !hasF bs ls ts && @decide (OneFeed (edgesOn ls ts) us) (Classical.propDecidable _)
noncomputable def feedOf (es : List E2) (nb : Nat) (us : List U2) (b : Nat) : Int := match (List.range nb).find? (fun f => connB es b f && decide (0 < fd us f)) with
  | some f => (f : Int)
  | none => -1
noncomputable def fbyF (bs : Int) (ls : List L3) (ts : List Bool) (us : List U2) (bus : Int) : Int := if radF bs ls ts us = true ∧ inB bus 0 (bs - 1) = true then feedOf (edgesOn ls ts) bs.toNat us bus.toNat else -1
noncomputable def plnF (bs : Int) (ls : List L3) (ts : List Bool) (us : List U2) (bus : Int) : Int := if radF bs ls ts us = true ∧ inB bus 0 (bs - 1) = true then hd1 (wayF ls ts us bus.toNat) else -1
noncomputable def patF (bs : Int) (ls : List L3) (ts : List Bool) (us : List U2) (bus : Int) : List Int := if radF bs ls ts us = true ∧ inB bus 0 (bs - 1) = true then ofN (wayF ls ts us bus.toNat).reverse else []
noncomputable def belB (ls : List L3) (ts : List Bool) (us : List U2) (line : Int) (b : Nat) : Bool := decide (line ∈ ofN (wayF ls ts us b))
noncomputable def belTo (ls : List L3) (ts : List Bool) (us : List U2) (line : Int) (k : Nat) : List Nat := (List.range k).filter (belB ls ts us line)
noncomputable def belF (bs : Int) (ls : List L3) (ts : List Bool) (us : List U2) (line : Int) : List Int := if radF bs ls ts us = true then ofN (belTo ls ts us line bs.toNat) else []
section
variable {bs : Int} {ls : List L3} {ts : List Bool} {us : List U2} {k o b j u v : Nat} {ws : List Nat}
theorem radF_iff : radF bs ls ts us = true ↔ okU bs ls ts.length us = true ∧ Acyc ls ts ∧ OneFeed (edgesOn ls ts) us := by
  rw [radF, Bool.and_eq_true, Bool.and_eq_true, Bool.not_eq_true', @decide_eq_true_iff _ (Classical.propDecidable _)]
  constructor
  · rintro ⟨⟨h1, h2⟩, h3⟩
    exact ⟨h1, acyc_of (okU_st h1) h2, h3⟩
  · rintro ⟨h1, h2, h3⟩
    exact ⟨⟨h1, acyc_has (okU_st h1) h2⟩, h3⟩
theorem radF_bad (h : okU bs ls ts.length us = false) : radF bs ls ts us = false := by rw [radF, h]; rfl
theorem radF_cyc (h : hasF bs ls ts = true) : radF bs ls ts us = false := by rw [radF, h]; simp
theorem radF_eq (h : okU bs ls ts.length us = true) (h2 : hasF bs ls ts = false) : radF bs ls ts us = true ↔ OneFeed (edgesOn ls ts) us := by
  rw [radF, h, h2, Bool.not_false, Bool.and_true, Bool.true_and, @decide_eq_true_iff _ (Classical.propDecidable _)]
theorem wayF_of (ha : Acyc ls ts) (ho : OneFeed (edgesOn ls ts) us) (h : Way ls ts us b ws) : wayF ls ts us b = ws := by
  have hx : ∃ ws, Way ls ts us b ws := ⟨ws, h⟩
  have e : wayF ls ts us b = Classical.choose hx := by unfold wayF; exact @dif_pos _ (Classical.propDecidable _) hx _ _ _
  rw [e]
  exact Way.one ha ho (Classical.choose_spec hx) h
theorem wayF_no (h : ¬ ∃ ws, Way ls ts us b ws) : wayF ls ts us b = [] := by
  unfold wayF; exact @dif_neg _ (Classical.propDecidable _) h _ _ _
theorem wayF_unfed (h : fedB (edgesOn ls ts) us b = false) : wayF ls ts us b = [] :=
  wayF_no fun ⟨_, hw⟩ => by rw [fedB_iff.2 hw.fed] at h; cases h
theorem wayF_cons (ha : Acyc ls ts) (ho : OneFeed (edgesOn ls ts) us) (h : wayF ls ts us b = k :: ws) : ∃ o, Ln ls ts k o b ∧ Way ls ts us o ws ∧ wayF ls ts us o = ws := by
  by_cases hx : ∃ ws, Way ls ts us b ws
  · obtain ⟨ws', hw⟩ := hx
    have e := wayF_of ha ho hw
    rw [h] at e
    subst e
    cases hw with
    | step hw hl hc => exact ⟨_, hl, hw, wayF_of ha ho hw⟩
  · rw [wayF_no hx] at h; cases h
theorem wayF_len (ha : Acyc ls ts) (ho : OneFeed (edgesOn ls ts) us) (b : Nat) : (wayF ls ts us b).length ≤ ts.length := by
  by_cases hx : ∃ ws, Way ls ts us b ws
  · obtain ⟨ws', hw⟩ := hx
    rw [wayF_of ha ho hw]
    exact hw.len ha ho
  · rw [wayF_no hx]; simp
theorem feedOf_some {es : List E2} (ho : OneFeed es us) {nb f : Nat} (hf : 0 < fd us f) (hc : Conn es f b) (hn : us.length = nb) : feedOf es nb us b = (f : Int) := by
  unfold feedOf
  rcases h : (List.range nb).find? (fun f => connB es b f && decide (0 < fd us f)) with _ | g
  · rw [List.find?_eq_none] at h
    have := h f (List.mem_range.2 (by have := fd_lt hf; omega))
    rw [connB_iff.2 hc.symm] at this
    simp [hf] at this
  · have h1 := List.find?_some h
    rw [Bool.and_eq_true, connB_iff, decide_eq_true_eq] at h1
    have := ho g f h1.2 hf (h1.1.symm.trans hc.symm)
    rw [this]
theorem feedOf_none {es : List E2} (h : fedB es us b = false) (nb : Nat) : feedOf es nb us b = -1 := by
  unfold feedOf
  rcases h2 : (List.range nb).find? (fun f => connB es b f && decide (0 < fd us f)) with _ | g
  · rfl
  · have h1 := List.find?_some h2
    rw [Bool.and_eq_true, connB_iff, decide_eq_true_eq] at h1
    rw [fedB_iff.2 ⟨g, h1.2, h1.1.symm⟩] at h; cases h
end
end Go.Proofs.YtbhlkcnkijihcaaDoor
