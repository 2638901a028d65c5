/- Cycles, plain facts: lines of cycles, bridges, spanning lines; how many there are. -/
import Derived.Test.YtbhlkcnkijihcaaDoorBPC
import Derived.Test.YtbhlkcnkijihcaaDoorBCC
import Derived.Test.YtbhlkcnkijihcaaDoorP0
namespace Go.Proofs.YtbhlkcnkijihcaaDoor
open Go.RowKit

/-- Line k is on and its ends are joined without it. -/
noncomputable def cycB (ls : List L3) (ts : List Bool) (k : Nat) : Bool := ts.getD k false && (match ls[k]? with | some l => connB (edgesOn ls (ts.set k false)) l.1.toNat l.2.1.toNat | none => false)
noncomputable def briB (ls : List L3) (ts : List Bool) (k : Nat) : Bool := ts.getD k false && !cycB ls ts k
noncomputable def linB (ls : List L3) (ts : List Bool) (br : Bool) (k : Nat) : Bool := if br = true then briB ls ts k else cycB ls ts k
/-- The first k lines of a kind. -/
noncomputable def linTo (ls : List L3) (ts : List Bool) (br : Bool) (k : Nat) : List Nat := (List.range k).filter (linB ls ts br)
noncomputable def linF (bs : Int) (ls : List L3) (ts : List Bool) (br : Bool) : List Int := if stOk bs ls ts.length = true then ofN (linTo ls ts br ts.length) else []
noncomputable def hasF (bs : Int) (ls : List L3) (ts : List Bool) : Bool := decide (0 < (linF bs ls ts false).length)
/-- Line k is on and joins two islands of the lines x. -/
noncomputable def spB (ls : List L3) (ts x : List Bool) (k : Nat) : Bool := ts.getD k false && (match ls[k]? with | some l => !connB (edgesOn ls x) l.1.toNat l.2.1.toNat | none => false)
noncomputable def spX (ls : List L3) (ts : List Bool) : Nat → List Bool
  | 0 => List.replicate ts.length false
  | k + 1 => if spB ls ts (spX ls ts k) k = true then (spX ls ts k).set k true else spX ls ts k
noncomputable def spTo (ls : List L3) (ts : List Bool) (k : Nat) : List Nat := (List.range k).filter fun j => spB ls ts (spX ls ts j) j
noncomputable def spaF (bs : Int) (ls : List L3) (ts : List Bool) : List Int := if stOk bs ls ts.length = true then ofN (spTo ls ts ts.length) else []

theorem filter_yes {p : Nat → Bool} {k : Nat} (h : p k = true) : (List.range (k + 1)).filter p = (List.range k).filter p ++ [k] := by
  rw [List.range_succ, List.filter_append, List.filter_cons, h]; rfl
theorem filter_no {p : Nat → Bool} {k : Nat} (h : p k = false) : (List.range (k + 1)).filter p = (List.range k).filter p := by
  rw [List.range_succ, List.filter_append, List.filter_cons, h]; simp
theorem linTo_yes {ls : List L3} {ts : List Bool} {br : Bool} {k : Nat} (h : linB ls ts br k = true) : linTo ls ts br (k + 1) = linTo ls ts br k ++ [k] := filter_yes h
theorem linTo_no {ls : List L3} {ts : List Bool} {br : Bool} {k : Nat} (h : linB ls ts br k = false) : linTo ls ts br (k + 1) = linTo ls ts br k := filter_no h
theorem linTo_len (ls : List L3) (ts : List Bool) (br : Bool) (k : Nat) : (linTo ls ts br k).length ≤ k := Nat.le_trans (List.length_filter_le _ _) (by simp)
theorem spTo_yes {ls : List L3} {ts : List Bool} {k : Nat} (h : spB ls ts (spX ls ts k) k = true) : spTo ls ts (k + 1) = spTo ls ts k ++ [k] := filter_yes (p := fun j => spB ls ts (spX ls ts j) j) h
theorem spTo_no {ls : List L3} {ts : List Bool} {k : Nat} (h : spB ls ts (spX ls ts k) k = false) : spTo ls ts (k + 1) = spTo ls ts k := filter_no (p := fun j => spB ls ts (spX ls ts j) j) h
theorem spTo_len (ls : List L3) (ts : List Bool) (k : Nat) : (spTo ls ts k).length ≤ k := Nat.le_trans (List.length_filter_le _ _) (by simp)
theorem spX_yes {ls : List L3} {ts : List Bool} {k : Nat} (h : spB ls ts (spX ls ts k) k = true) : spX ls ts (k + 1) = (spX ls ts k).set k true := by rw [spX, if_pos h]
theorem spX_no {ls : List L3} {ts : List Bool} {k : Nat} (h : spB ls ts (spX ls ts k) k = false) : spX ls ts (k + 1) = spX ls ts k := by rw [spX, if_neg (by rw [h]; decide)]
theorem spX_len (ls : List L3) (ts : List Bool) (k : Nat) : (spX ls ts k).length = ts.length := by
  induction k with
  | zero => simp [spX]
  | succ k ih =>
    rw [spX]
    split
    · rw [List.length_set, ih]
    · exact ih
section
variable {bs : Int} {ls : List L3} {ts : List Bool} {k : Nat} {l : L3}
theorem getD_some {t : Bool} (h : ts[k]? = some t) : ts.getD k false = t := by rw [List.getD_eq_getElem?_getD, h]; rfl
theorem getD_true (h : ts.getD k false = true) : ts[k]? = some true := by
  rw [List.getD_eq_getElem?_getD] at h
  rcases hk : ts[k]? with _ | t
  · rw [hk] at h; cases h
  · rw [hk] at h; rw [show t = true from h]
theorem cycB_at {t : Bool} (hl : ls[k]? = some l) (ht : ts[k]? = some t) : cycB ls ts k = (t && connB (edgesOn ls (ts.set k false)) l.1.toNat l.2.1.toNat) := by rw [cycB, getD_some ht, hl]
theorem briB_at {t : Bool} (hl : ls[k]? = some l) (ht : ts[k]? = some t) : briB ls ts k = (t && !connB (edgesOn ls (ts.set k false)) l.1.toNat l.2.1.toNat) := by
  rw [briB, cycB_at hl ht, getD_some ht]; cases t <;> simp
theorem spB_at {x : List Bool} {t : Bool} (hl : ls[k]? = some l) (ht : ts[k]? = some t) : spB ls ts x k = (t && !connB (edgesOn ls x) l.1.toNat l.2.1.toNat) := by rw [spB, getD_some ht, hl]
theorem linF_of (hs : stOk bs ls ts.length = true) (br : Bool) : linF bs ls ts br = ofN (linTo ls ts br ts.length) := by rw [linF, if_pos hs]
theorem linF_not (hs : stOk bs ls ts.length = false) (br : Bool) : linF bs ls ts br = [] := by rw [linF, if_neg (by rw [hs]; decide)]
theorem spaF_of (hs : stOk bs ls ts.length = true) : spaF bs ls ts = ofN (spTo ls ts ts.length) := by rw [spaF, if_pos hs]
theorem spaF_not (hs : stOk bs ls ts.length = false) : spaF bs ls ts = [] := by rw [spaF, if_neg (by rw [hs]; decide)]
theorem linF_len (bs : Int) (ls : List L3) (ts : List Bool) (br : Bool) : (linF bs ls ts br).length ≤ 10 := by
  rw [linF]; split
  · rename_i h
    have := (stOk_len h).2
    have := linTo_len ls ts br ts.length
    rw [ofN_len]; omega
  · simp
theorem spaF_len (bs : Int) (ls : List L3) (ts : List Bool) : (spaF bs ls ts).length ≤ 10 := by
  rw [spaF]; split
  · rename_i h
    have := (stOk_len h).2
    have := spTo_len ls ts ts.length
    rw [ofN_len]; omega
  · simp
theorem hasF_eq (bs : Int) (ls : List L3) (ts : List Bool) : hasF bs ls ts = decide (((linF bs ls ts false).length : Int) > 0) := by
  rw [hasF, decide_eq_decide]; omega
/-- The members are in ascending order, and each is a line of the kind. -/
theorem linF_at {br : Bool} {j : Nat} {z : Int} (h : (linF bs ls ts br)[j]? = some z) : stOk bs ls ts.length = true ∧ ∃ k : Nat, z = (k : Int) ∧ k < ts.length ∧ linB ls ts br k = true := by
  rw [linF] at h
  split at h
  · rename_i hs
    rw [ofN, List.getElem?_map, Option.map_eq_some_iff] at h
    obtain ⟨k, hk, rfl⟩ := h
    have := List.mem_of_getElem? hk
    rw [linTo, List.mem_filter, List.mem_range] at this
    exact ⟨hs, k, rfl, this.1, this.2⟩
  · simp at h
theorem filter_asc (p : Nat → Bool) (n : Nat) {j : Nat} {x y : Int} (hx : (ofN ((List.range n).filter p))[j]? = some x) (hy : (ofN ((List.range n).filter p))[j + 1]? = some y) : x < y := by
  simp only [ofN, List.getElem?_map, Option.map_eq_some_iff] at hx hy
  obtain ⟨a, ha, rfl⟩ := hx
  obtain ⟨b, hb, rfl⟩ := hy
  have h := List.pairwise_iff_getElem.1 (range_filter_ascend p n) j (j + 1) (List.getElem?_eq_some_iff.1 ha).1 (List.getElem?_eq_some_iff.1 hb).1 (Nat.lt_succ_self j)
  rw [(List.getElem?_eq_some_iff.1 ha).2, (List.getElem?_eq_some_iff.1 hb).2] at h
  exact Int.ofNat_lt.2 h
theorem linF_asc (bs : Int) (ls : List L3) (ts : List Bool) (br : Bool) : ∀ (k : Nat) (x y : Int), (linF bs ls ts br)[k]? = some x → (linF bs ls ts br)[k + 1]? = some y → x < y := by
  intro k x y hx hy
  by_cases hs : stOk bs ls ts.length = true
  · rw [linF_of hs] at hx hy; exact filter_asc _ _ hx hy
  · rw [linF, if_neg hs] at hx; simp at hx
theorem spaF_asc (bs : Int) (ls : List L3) (ts : List Bool) : ∀ (k : Nat) (x y : Int), (spaF bs ls ts)[k]? = some x → (spaF bs ls ts)[k + 1]? = some y → x < y := by
  intro k x y hx hy
  by_cases hs : stOk bs ls ts.length = true
  · rw [spaF_of hs] at hx hy; exact filter_asc _ _ hx hy
  · rw [spaF, if_neg hs] at hx; simp at hx

/-! P74 -/
theorem set_same {t : Bool} (h : ts[k]? = some t) : ts.set k t = ts := by
  apply List.ext_getElem?
  intro j
  by_cases hj : k = j
  · subst hj; rw [List.getElem?_set_self (List.getElem?_eq_some_iff.1 h).1, h]
  · rw [List.getElem?_set_ne hj]
theorem on_line (hs : stOk bs ls ts.length = true) (h : k < ts.length) : ∃ l, ls[k]? = some l := ⟨_, List.getElem?_eq_getElem (by have := (stOk_len hs).1; omega)⟩
theorem cyc_same (hs : stOk bs ls ts.length = true) (hk : k < ts.length) (h : cycB ls ts k = true) : islF bs ls (ts.set k false) = islF bs ls ts ∧ ts[k]? = some true := by
  obtain ⟨l, hl⟩ := on_line hs hk
  rw [cycB, Bool.and_eq_true, hl] at h
  have ht := getD_true h.1
  have hc := connB_iff.1 h.2
  refine ⟨?_, ht⟩
  rw [islF_of hs, islF_of (stOk_set hs k false)]
  congr 1
  unfold islL
  apply List.map_congr_left
  intro b _
  have ha := adj_set hl hk
  rw [set_same ht] at ha
  exact leastF_congr (fun a b => by
    rw [conn_more ha]
    exact ⟨.inl, fun h2 => h2.elim id fun h3 => h3.elim (fun ⟨x, y⟩ => (x.trans hc).trans y) (fun ⟨x, y⟩ => (x.trans hc.symm).trans y)⟩) b
/-! P75 -/
theorem bri_more (hs : stOk bs ls ts.length = true) (hk : k < ts.length) (h : briB ls ts k = true) : ((iofF bs ls (ts.set k false)).length : Int) = (iofF bs ls (ts.set k true)).length + 1 := by
  obtain ⟨l, hl⟩ := on_line hs hk
  rw [briB, Bool.and_eq_true, cycB, hl] at h
  obtain ⟨h1, h2⟩ := h
  rw [h1] at h2
  simp only [Bool.true_and, Bool.not_eq_true'] at h2
  have := heads_switch (stOk_net hs) hl hk
  rw [h2] at this
  rw [iofF_length (stOk_set hs k false), iofF_length (stOk_set hs k true)]
  simp at this
  omega
theorem filter_two (p q : Nat → Bool) (n : Nat) : ((List.range n).filter fun j => p j && !q j && p j).length + ((List.range n).filter fun j => p j && q j).length = ((List.range n).filter p).length := by
  induction n with
  | zero => rfl
  | succ n ih =>
    rw [List.range_succ, List.filter_append, List.filter_append, List.filter_append, List.length_append, List.length_append, List.length_append]
    have : ([n].filter fun j => p j && !q j && p j).length + ([n].filter fun j => p j && q j).length = ([n].filter p).length := by
      cases hp : p n <;> cases hq : q n <;> simp [hp, hq]
    omega
theorem count_range (ts : List Bool) : ts.countP id = ((List.range ts.length).filter fun j => ts.getD j false).length := by
  rw [← List.countP_eq_length_filter]
  have : ts = (List.range ts.length).map fun j => ts.getD j false := by
    apply List.ext_getElem?
    intro j
    rw [List.getElem?_map]
    rcases Nat.lt_or_ge j ts.length with h | h
    · rw [List.getElem?_range h, getD_get h]; rfl
    · rw [List.getElem?_eq_none h, List.getElem?_eq_none (by simpa using h)]; rfl
  conv => lhs; rw [this]
  rw [List.countP_map]; rfl
theorem lines_two (hs : stOk bs ls ts.length = true) : (linF bs ls ts true).length + (linF bs ls ts false).length = ts.countP id := by
  rw [linF_of hs, linF_of hs, ofN_len, ofN_len, count_range]
  have h := filter_two (fun j => ts.getD j false) (cycB ls ts) ts.length
  have e1 : linTo ls ts true ts.length = (List.range ts.length).filter fun j => ts.getD j false && !cycB ls ts j && ts.getD j false := by
    unfold linTo
    apply List.filter_congr
    intro j _
    rw [linB, if_pos rfl, briB]
    cases ts.getD j false <;> cases cycB ls ts j <;> rfl
  have e2 : linTo ls ts false ts.length = (List.range ts.length).filter fun j => ts.getD j false && cycB ls ts j := by
    unfold linTo
    apply List.filter_congr
    intro j _
    rw [linB, if_neg (by decide), cycB]
    cases ts.getD j false <;> simp
  rw [e1, e2]; exact h

/-! P76 and spanning lines -/
/-- The lines before k that are on. -/
def upto (ts : List Bool) (k : Nat) : List Bool := (List.range ts.length).map fun j => decide (j < k) && ts.getD j false
theorem upto_len (ts : List Bool) (k : Nat) : (upto ts k).length = ts.length := by simp [upto]
theorem upto_get {j : Nat} (hj : j < ts.length) : (upto ts k)[j]? = some (decide (j < k) && ts.getD j false) := by rw [upto, List.getElem?_map, List.getElem?_range hj]; rfl
theorem upto_zero (ts : List Bool) : upto ts 0 = List.replicate ts.length false := by
  apply List.ext_getElem?
  intro j
  rcases Nat.lt_or_ge j ts.length with h | h
  · rw [upto_get h, List.getElem?_replicate, if_pos h]; simp
  · rw [List.getElem?_eq_none (by rw [upto_len]; exact h), List.getElem?_eq_none (by simpa using h)]
theorem upto_all (ts : List Bool) : upto ts ts.length = ts := by
  apply List.ext_getElem?
  intro j
  rcases Nat.lt_or_ge j ts.length with h | h
  · rw [upto_get h, getD_get h]; simp [h]
  · rw [List.getElem?_eq_none (by rw [upto_len]; exact h), List.getElem?_eq_none h]
theorem upto_succ' {t : Bool} (ht : ts[k]? = some t) : upto ts (k + 1) = (upto ts k).set k t := by
  apply List.ext_getElem?
  intro j
  have hk := (List.getElem?_eq_some_iff.1 ht).1
  rcases Nat.lt_or_ge j ts.length with h | h
  · rw [upto_get h]
    by_cases hj : k = j
    · subst hj
      rw [List.getElem?_set_self (by rw [upto_len]; exact h), getD_some ht]; simp
    · rw [List.getElem?_set_ne hj, upto_get h]
      congr 2
      rw [decide_eq_decide]; omega
  · rw [List.getElem?_eq_none (by rw [upto_len]; exact h), List.getElem?_eq_none (by rw [List.length_set, upto_len]; exact h)]
theorem upto_off (hk : k < ts.length) : (upto ts k).set k false = upto ts k := set_same (by rw [upto_get hk]; simp)
theorem none_on (ls : List L3) (n : Nat) : edgesOn ls (List.replicate n false) = [] := by
  rw [List.eq_nil_iff_forall_not_mem]
  intro e he
  obtain ⟨k, l, _, h, _⟩ := mem_edgesOn.1 he
  rw [List.getElem?_replicate] at h
  split at h <;> simp at h
theorem countP_set_true : ∀ {x : List Bool} {k : Nat}, x[k]? = some false → (x.set k true).countP id = x.countP id + 1
  | [], k, h => by simp at h
  | a :: x, 0, h => by simp at h; subst h; simp
  | a :: x, k + 1, h => by
    have ih := countP_set_true (x := x) (k := k) (by simpa using h)
    rw [List.set_cons_succ, List.countP_cons, List.countP_cons, ih]; omega
theorem countP_set_false {x : List Bool} (h : x[k]? = some true) : x.countP id = (x.set k false).countP id + 1 := by
  have hk := (List.getElem?_eq_some_iff.1 h).1
  rw [← countP_set_true (x := x.set k false) (k := k) (List.getElem?_set_self hk), List.set_set, set_same h]
theorem upto_cnt (hv : netOk bs ls = true) (hn : ts.length = ls.length) (k : Nat) (hk : k ≤ ts.length) :
    bs.toNat ≤ (upto ts k).countP id + cntF (edgesOn ls (upto ts k)) bs.toNat ∧ ((∀ j l, j < k → ts[j]? = some true → ls[j]? = some l → ¬ Conn (edgesOn ls (upto ts j)) l.1.toNat l.2.1.toNat) → (upto ts k).countP id + cntF (edgesOn ls (upto ts k)) bs.toNat = bs.toNat) := by
  induction k with
  | zero => rw [upto_zero, none_on, cntF_none]; simp
  | succ k ih =>
    have ih := ih (by omega)
    obtain ⟨t, ht⟩ : ∃ t, ts[k]? = some t := ⟨_, List.getElem?_eq_getElem (by omega)⟩
    obtain ⟨l, hl⟩ : ∃ l, ls[k]? = some l := ⟨_, List.getElem?_eq_getElem (by omega)⟩
    rw [upto_succ' ht]
    have hkl : k < (upto ts k).length := by rw [upto_len]; omega
    have hoff := upto_off (ts := ts) (k := k) (by omega)
    have h2 := netOk_line hv hl
    simp [lineOk, inB] at h2
    cases t
    · rw [hoff]
      exact ⟨ih.1, fun h => ih.2 fun j l hj => h j l (by omega)⟩
    · have ha := adj_set (ls := ls) hl hkl
      rw [hoff] at ha
      obtain ⟨c1, c2⟩ := cntF_more (nb := bs.toNat) ha (by omega) (by omega)
      have hcn := countP_set_true (x := upto ts k) (k := k) (by rw [upto_get (by omega)]; simp)
      rw [hcn]
      by_cases hc : Conn (edgesOn ls (upto ts k)) l.1.toNat l.2.1.toNat
      · have := c1 hc
        exact ⟨by omega, fun h => absurd hc (h k l (by omega) ht hl)⟩
      · have := c2 hc
        refine ⟨by omega, fun h => ?_⟩
        have := ih.2 fun j l hj => h j l (by omega)
        omega
theorem lines_cnt (hs : stOk bs ls ts.length = true) : bs.toNat ≤ ts.countP id + cntF (edgesOn ls ts) bs.toNat := by
  have := (upto_cnt (stOk_net hs) (stOk_len hs).1 ts.length (Nat.le_refl _)).1
  rwa [upto_all] at this
theorem conn_mono {x y : List Bool} (h : ∀ j : Nat, x[j]? = some true → y[j]? = some true) {a b : Nat} (hc : Conn (edgesOn ls x) a b) : Conn (edgesOn ls y) a b := by
  refine hc.mono fun u v huv => ?_
  have key : ∀ e, e ∈ edgesOn ls x → e ∈ edgesOn ls y := by
    intro e he
    obtain ⟨j, l, h1, h2, h3⟩ := mem_edgesOn.1 he
    exact mem_edgesOn.2 ⟨j, l, h1, h j h2, h3⟩
  exact huv.imp (key _) (key _)
/-- There is a cycle exactly if more lines are on than there are buses, less the number of islands. -/
theorem has_cnt (hs : stOk bs ls ts.length = true) : hasF bs ls ts = true ↔ bs.toNat < ts.countP id + cntF (edgesOn ls ts) bs.toNat := by
  have hv := stOk_net hs
  have hn := (stOk_len hs).1
  rw [hasF, decide_eq_true_eq, linF_of hs, ofN_len]
  constructor
  · intro h
    obtain ⟨k, hk⟩ := List.exists_mem_of_length_pos h
    rw [linTo, List.mem_filter, List.mem_range, linB, if_neg (by decide)] at hk
    obtain ⟨hkl, hc⟩ := hk
    obtain ⟨l, hl⟩ := on_line hs hkl
    rw [cycB, Bool.and_eq_true, hl] at hc
    have ht := getD_true hc.1
    have ha := adj_set hl hkl
    rw [set_same ht] at ha
    have h2 := netOk_line hv hl
    simp [lineOk, inB] at h2
    have c1 := (cntF_more (nb := bs.toNat) ha (by omega) (by omega)).1 (connB_iff.1 hc.2)
    have c2 := lines_cnt (stOk_set hs k false)
    have c3 := countP_set_false ht
    omega
  · intro h
    rcases Nat.eq_zero_or_pos (linTo ls ts false ts.length).length with h0 | h0
    · exfalso
      have h0 := List.eq_nil_of_length_eq_zero h0
      have := (upto_cnt hv hn ts.length (Nat.le_refl _)).2 (fun j l hj ht hl hc => ?_)
      · rw [upto_all] at this; omega
      · have hm : j ∈ linTo ls ts false ts.length := by
          rw [linTo, List.mem_filter, List.mem_range]
          refine ⟨hj, ?_⟩
          rw [linB, if_neg (by decide), cycB_at hl ht, Bool.true_and, connB_iff]
          refine conn_mono (fun i hi => ?_) hc
          rcases Nat.lt_or_ge i ts.length with hil | hil
          · rw [upto_get hil] at hi
            injection hi with hi
            simp only [Bool.and_eq_true, decide_eq_true_eq] at hi
            rw [List.getElem?_set_ne (by omega)]; exact getD_true hi.2
          · rw [List.getElem?_eq_none (by rw [upto_len]; exact hil)] at hi; cases hi
        rw [h0] at hm; cases hm
    · exact h0
/-- The spanning lines so far join what all lines so far join, and there are as many as buses, less the number of islands. -/
theorem span_inv (hv : netOk bs ls = true) (hn : ts.length = ls.length) (k : Nat) (hk : k ≤ ts.length) :
    (∀ a b, Conn (edgesOn ls (spX ls ts k)) a b ↔ Conn (edgesOn ls (upto ts k)) a b) ∧ (∀ j, k ≤ j → (spX ls ts k)[j]? ≠ some true) ∧ (spX ls ts k).countP id = (spTo ls ts k).length ∧ (spTo ls ts k).length + cntF (edgesOn ls (spX ls ts k)) bs.toNat = bs.toNat ∧ (∀ j, (spX ls ts k)[j]? = some true ↔ j ∈ spTo ls ts k) := by
  induction k with
  | zero =>
    have e : spX ls ts 0 = List.replicate ts.length false := rfl
    have e2 : ∀ j : Nat, (List.replicate ts.length false)[j]? ≠ some true := fun j h => by
      rw [List.getElem?_replicate] at h
      split at h <;> simp at h
    rw [e, upto_zero, none_on, cntF_none]
    exact ⟨fun _ _ => Iff.rfl, fun j _ => e2 j, by simp [spTo], by simp [spTo], fun j => ⟨fun h => absurd h (e2 j), fun h => by simp [spTo] at h⟩⟩
  | succ k ih =>
    obtain ⟨i1, i2, i3, i4, i5⟩ := ih (by omega)
    obtain ⟨t, ht⟩ : ∃ t, ts[k]? = some t := ⟨_, List.getElem?_eq_getElem (by omega)⟩
    obtain ⟨l, hl⟩ : ∃ l, ls[k]? = some l := ⟨_, List.getElem?_eq_getElem (by omega)⟩
    have hkl : k < (upto ts k).length := by rw [upto_len]; omega
    have hkx : k < (spX ls ts k).length := by rw [spX_len]; omega
    have hoff := upto_off (ts := ts) (k := k) (by omega)
    have hxf : (spX ls ts k)[k]? = some false := by
      rw [List.getElem?_eq_getElem hkx]
      have := i2 k (Nat.le_refl _)
      rw [List.getElem?_eq_getElem hkx] at this
      congr 1
      rcases h : (spX ls ts k)[k] with _ | _
      · rfl
      · rw [h] at this; exact absurd rfl this
    have h2 := netOk_line hv hl
    simp [lineOk, inB] at h2
    have ha := adj_set (ls := ls) hl hkl
    rw [hoff] at ha
    have hb := adj_set (ls := ls) hl hkx
    rw [set_same hxf] at hb
    rw [upto_succ' ht]
    by_cases hsp : spB ls ts (spX ls ts k) k = true
    · rw [spX_yes hsp, spTo_yes hsp]
      rw [spB_at hl ht, Bool.and_eq_true, Bool.not_eq_true', connB_no] at hsp
      obtain ⟨rfl, hnc⟩ := hsp
      refine ⟨fun a b => ?_, fun j hj => ?_, ?_, ?_, fun j => ?_⟩
      · rw [conn_more ha, conn_more hb, i1, i1, i1, i1, i1]
      · rw [List.getElem?_set_ne (by omega)]; exact i2 j (by omega)
      · rw [countP_set_true hxf, i3, List.length_append]; rfl
      · have := (cntF_more (nb := bs.toNat) hb (by omega) (by omega)).2 hnc
        rw [List.length_append, List.length_singleton]; omega
      · rw [List.mem_append, List.mem_singleton, ← i5 j]
        by_cases hj : k = j
        · subst hj; rw [List.getElem?_set_self hkx]; simp
        · rw [List.getElem?_set_ne hj]
          exact ⟨.inl, fun h => h.elim id fun h => absurd h.symm hj⟩
    · rw [Bool.not_eq_true] at hsp
      rw [spX_no hsp, spTo_no hsp]
      refine ⟨fun a b => ?_, fun j hj => i2 j (by omega), i3, i4, i5⟩
      rw [spB_at hl ht] at hsp
      cases t
      · rw [hoff]; exact i1 a b
      · rw [Bool.true_and, Bool.not_eq_false', connB_iff] at hsp
        have hc := (i1 _ _).1 hsp
        rw [i1, conn_more ha]
        exact ⟨.inl, fun h2 => h2.elim id fun h3 => h3.elim (fun ⟨x, y⟩ => (x.trans hc).trans y) (fun ⟨x, y⟩ => (x.trans hc.symm).trans y)⟩
/-- What is promised of the spanning lines. -/
theorem span_all (hs : stOk bs ls ts.length = true) : islF bs ls (spX ls ts ts.length) = islF bs ls ts ∧ hasF bs ls (spX ls ts ts.length) = false ∧ ((spaF bs ls ts).length : Int) = bs - (iofF bs ls ts).length := by
  have hv := stOk_net hs
  have hn := (stOk_len hs).1
  have hb := stOk_bs hs
  obtain ⟨i1, _, i3, i4, _⟩ := span_inv hv hn ts.length (Nat.le_refl _)
  have hx : stOk bs ls (spX ls ts ts.length).length = true := by rw [spX_len]; exact hs
  rw [upto_all] at i1
  have hc := cntF_congr i1 bs.toNat
  refine ⟨?_, ?_, ?_⟩
  · rw [islF_of hs, islF_of hx]
    congr 1
    unfold islL
    exact List.map_congr_left fun b _ => leastF_congr i1 b
  · rw [Bool.eq_false_iff]
    intro h
    rw [has_cnt hx] at h
    omega
  · rw [spaF_of hs, ofN_len, iofF_length hs, heads_cnt, ← hc]
    omega
end
end Go.Proofs.YtbhlkcnkijihcaaDoor
