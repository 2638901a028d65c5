/- Switching orders, plain facts (no program): valid orders, their texts, and how texts are read. -/
import Derived.Test.YtfedffekbemcoaaDoorSP0
import Derived.Test.YtfedffekbemcoaaDoorR0
import Derived.Lib.Join
namespace Go.Proofs.YtfedffekbemcoaaDoor
open Go.RowKit

def stepOk (p : TP) : Bool := decide (0 ≤ p.1) && decide (p.1 ≤ 9)
def ordOk (ss : List TP) : Bool := ss.all stepOk && decide (ss.length ≤ 12)
theorem stepOk_iff {p : TP} : stepOk p = true ↔ 0 ≤ p.1 ∧ p.1 ≤ 9 := by simp [stepOk]
theorem ordOk_iff {ss : List TP} : ordOk ss = true ↔ (∀ p ∈ ss, 0 ≤ p.1 ∧ p.1 ≤ 9) ∧ ss.length ≤ 12 := by simp [ordOk, stepOk_iff]
theorem ordOk_get {ss : List TP} (h : ordOk ss = true) {k : Nat} {p : TP} (hk : ss[k]? = some p) : 0 ≤ p.1 ∧ p.1 ≤ 9 := (ordOk_iff.1 h).1 p (List.mem_of_getElem? hk)
theorem ordOk_len {ss : List TP} (h : ordOk ss = true) : ss.length ≤ 12 := (ordOk_iff.1 h).2
theorem all_take {ss : List TP} {k : Nat} {p : TP} (hk : ss[k]? = some p) (h : stepOk p = true) (ht : (ss.take k).all stepOk = true) : (ss.take (k + 1)).all stepOk = true := by
  rw [List.take_add_one, hk, List.all_append, ht]; simp [h]
theorem all_bad {ss : List TP} {k : Nat} {p : TP} (hk : ss[k]? = some p) (h : stepOk p = false) : ss.all stepOk = false := by
  rw [List.all_eq_false]; exact ⟨p, List.mem_of_getElem? hk, by simp [h]⟩

/-! Texts -/
def wordO (b : Bool) : Bs := if b then [111, 110] else [111, 102, 102]
def stepW (p : TP) : Bs := wordO p.2 ++ 32 :: Lib.decDigits p.1.toNat
def nothingB : Bs := [110, 111, 116, 104, 105, 110, 103]
def listO : List TP → Bs
  | [] => nothingB
  | p :: r => stepW p ++ r.flatMap fun x => 59 :: stepW x
def textO (ss : List TP) : ByteArray := if ordOk ss = true then ⟨(listO ss).toArray⟩ else ⟨#[]⟩
theorem textO_list {ss : List TP} (h : ordOk ss = true) : (textO ss).data.toList = listO ss := by rw [textO, if_pos h]
theorem textO_no {ss : List TP} (h : ordOk ss = false) : textO ss = ⟨#[]⟩ := by rw [textO, if_neg (by simp [h])]
theorem stepW_ne (p : TP) : ∀ c ∈ stepW p, c ≠ 59 := by
  intro c hc
  simp only [stepW, List.mem_append, List.mem_cons] at hc
  rcases hc with hc | rfl | hc
  · unfold wordO at hc; split at hc <;> · simp at hc; rcases hc with rfl | rfl <;> decide
  · decide
  · exact dec_ne _ 59 (by decide) c hc
theorem wordO_ne (b : Bool) : ∀ c ∈ wordO b, c ≠ 32 := by
  intro c hc
  unfold wordO at hc; split at hc <;> · simp at hc; rcases hc with rfl | rfl <;> decide
theorem wordO_eq (b : Bool) : (wordO b == [111, 110]) = b := by cases b <;> decide

/-- What a piece of a text is read as: by the program, by the model. -/
def stepP (w : Bs) : TP := (numP (Lib.cut w [32]).2.1, (Lib.cut w [32]).1 == [111, 110])
def stepS (w : Bs) : Option TP := if (cutA 32 [] w).length = 2 then some (readS ((cutA 32 [] w).getD 1 []), (cutA 32 [] w).getD 0 [] == [111, 110]) else none
theorem stepP_word {p : TP} (h : 0 ≤ p.1 ∧ p.1 ≤ 9) : stepP (stepW p) = p := by
  obtain ⟨x, b⟩ := p
  have e := cut_hit (Lib.decDigits x.toNat) (wordO_ne b)
  simp only at h
  simp only [stepP, stepW, e, wordO_eq]
  rw [numP_dec (by omega), Int.toNat_of_nonneg h.1]
theorem stepS_word {p : TP} (h : 0 ≤ p.1 ∧ p.1 ≤ 9) : stepS (stepW p) = some p := by
  obtain ⟨x, b⟩ := p
  have e : cutA 32 [] (stepW (x, b)) = [wordO b, Lib.decDigits x.toNat] := cutA_two (wordO_ne b) (dec_ne _ 32 (by decide))
  simp only at h
  simp only [stepS, e, List.getD_cons_zero, List.getD_cons_succ, wordO_eq]
  rw [if_pos (by simp), readS_dec (by omega), Int.toNat_of_nonneg h.1]
def allS : List Bs → Option (List TP)
  | [] => some []
  | w :: r => match stepS w with
    | none => none
    | some p => (allS r).map (p :: ·)
theorem allS_app (xs ys : List Bs) : allS (xs ++ ys) = (allS xs).bind fun ps => (allS ys).map (ps ++ ·) := by
  induction xs with
  | nil => simp [allS]
  | cons x xs ih =>
    rw [List.cons_append, allS, allS, ih]
    rcases stepS x with _ | p
    · rfl
    · rcases allS xs with _ | ps
      · rfl
      · simp [Option.map_map, Function.comp_def]
theorem allS_step {xs : List Bs} {k : Nat} {w : Bs} {p : TP} {ps : List TP} (hk : xs[k]? = some w) (h : allS (xs.take k) = some ps) (hp : stepS w = some p) : allS (xs.take (k + 1)) = some (ps ++ [p]) := by
  rw [List.take_add_one, hk, allS_app, h]
  simp [allS, hp]
theorem allS_stop {xs : List Bs} {k : Nat} {w : Bs} {ps : List TP} (hk : xs[k]? = some w) (h : allS (xs.take k) = some ps) (hp : stepS w = none) : allS xs = none := by
  have e : xs = xs.take k ++ w :: xs.drop (k + 1) := by
    obtain ⟨hlt, he⟩ := List.getElem?_eq_some_iff.1 hk
    rw [← he, List.getElem_cons_drop, List.take_append_drop]
  rw [e, allS_app, h]
  simp [allS, hp]
theorem allS_words (ss : List TP) (h : ∀ p ∈ ss, 0 ≤ p.1 ∧ p.1 ≤ 9) : allS (ss.map stepW) = some ss := by
  induction ss with
  | nil => rfl
  | cons p r ih =>
    rw [List.map_cons, allS, stepS_word (h p (by simp)), ih (fun q hq => h q (by simp [hq]))]; rfl
theorem allS_len : ∀ {xs : List Bs} {ps : List TP}, allS xs = some ps → ps.length = xs.length
  | [], ps, h => by injection h with h; subst h; rfl
  | w :: r, ps, h => by
    rw [allS] at h
    rcases hw : stepS w with _ | p
    · rw [hw] at h; cases h
    · rw [hw] at h
      rcases hr : allS r with _ | qs
      · rw [hr] at h; cases h
      · rw [hr] at h; injection h with h; subst h; simp [allS_len hr]

/-! Whole texts -/
def candOP (s : Bs) : List TP := (Lib.splitK [59] 0 (min 13 (s.length + 1) - 1) s).map stepP
theorem listO_words (p : TP) (r : List TP) : listO (p :: r) = stepW p ++ (r.map stepW).flatMap fun x => 59 :: x := by
  rw [listO, List.flatMap_map]
theorem listO_len (p : TP) (r : List TP) : r.length ≤ (listO (p :: r)).length := by
  rw [listO, List.length_append]
  have : r.length ≤ (r.flatMap fun x => 59 :: stepW x).length := by
    induction r with
    | nil => simp
    | cons l ls ih => rw [List.flatMap_cons, List.length_append, List.length_cons, List.length_cons]; omega
  omega
theorem candOP_list {p : TP} {r : List TP} (h : ordOk (p :: r) = true) : candOP (listO (p :: r)) = p :: r := by
  have hl := listO_len p r
  have h12 := ordOk_len h
  have e : Lib.splitK [59] 0 (min 13 ((listO (p :: r)).length + 1) - 1) (listO (p :: r)) = stepW p :: r.map stepW := by
    generalize hk : min 13 ((listO (p :: r)).length + 1) - 1 = k
    have hk2 : r.length ≤ k := by simp only [List.length_cons] at h12; omega
    rw [listO_words]
    exact splitK_words (r.map stepW) k _ (by simpa using hk2) (stepW_ne p) (fun x hx => by obtain ⟨l, _, rfl⟩ := List.mem_map.1 hx; exact stepW_ne l)
  rw [candOP, e, List.map_cons, stepP_word ((ordOk_iff.1 h).1 p (by simp)), List.map_map]
  congr 1
  conv => rhs; rw [← List.map_id r]
  exact List.map_congr_left fun l hl => stepP_word ((ordOk_iff.1 h).1 l (by simp [hl]))
theorem candOS_list {p : TP} {r : List TP} (h : ordOk (p :: r) = true) : allS (cutA 59 [] (listO (p :: r))) = some (p :: r) := by
  have e : cutA 59 [] (listO (p :: r)) = (p :: r).map stepW := by
    rw [listO_words]
    exact cutA_words (r.map stepW) [] _ (stepW_ne p) (fun x hx => by obtain ⟨l, _, rfl⟩ := List.mem_map.1 hx; exact stepW_ne l)
  rw [e]
  exact allS_words _ (ordOk_iff.1 h).1
theorem listO_ne (p : TP) (r : List TP) : listO (p :: r) ≠ nothingB := by
  intro e
  rw [listO, stepW, wordO] at e
  split at e <;> simp [nothingB] at e
theorem listO_pos (ss : List TP) : listO ss ≠ [] := by
  cases ss with
  | nil => simp [listO, nothingB]
  | cons p r => simp [listO, stepW]
theorem wordO_len (b : Bool) : (wordO b).length ≤ 3 := by cases b <;> decide
theorem stepW_len {p : TP} (h : 0 ≤ p.1 ∧ p.1 ≤ 9) : (stepW p).length ≤ 5 := by
  have h1 := wordO_len p.2
  rw [stepW, Lib.decDigits_one (by omega)]
  simp; omega
theorem listO_size {ss : List TP} (h : ordOk ss = true) : (listO ss).length ≤ 7 + 6 * ss.length := by
  cases ss with
  | nil => simp [listO, nothingB]
  | cons p r =>
    have h1 := (ordOk_iff.1 h).1
    have h2 := stepW_len (h1 p (by simp))
    have h3 : (r.flatMap fun x => 59 :: stepW x).length ≤ 6 * r.length := by
      have hr : ∀ q ∈ r, 0 ≤ q.1 ∧ q.1 ≤ 9 := fun q hq => h1 q (by simp [hq])
      clear h h1 h2
      induction r with
      | nil => simp
      | cons q r ih =>
        rw [List.flatMap_cons, List.length_append]
        have := ih (fun q hq => hr q (by simp [hq]))
        have := stepW_len (hr q (by simp))
        simp only [List.length_cons]; omega
    rw [listO, List.length_append, List.length_cons]; omega
theorem bytes_eq {s t : ByteArray} : s.data.toList = t.data.toList ↔ s = t := by
  constructor
  · intro h; cases s; cases t; congr; exact Array.toList_inj.1 h
  · intro h; rw [h]
/-- The order of a text, if there is one. -/
def readO (s : ByteArray) : Option (List TP) := if s.data.toList = nothingB then some [] else if ordOk (candOP s.data.toList) = true ∧ textO (candOP s.data.toList) = s then some (candOP s.data.toList) else none
theorem ordOk_nil : ordOk [] = true := by decide
theorem readO_text {ss : List TP} (h : ordOk ss = true) : readO (textO ss) = some ss := by
  rw [readO, textO_list h]
  cases ss with
  | nil => exact if_pos rfl
  | cons p r => rw [if_neg (listO_ne p r), candOP_list h, if_pos ⟨h, rfl⟩]
theorem readO_some {s : ByteArray} {c : List TP} (h : readO s = some c) : ordOk c = true ∧ textO c = s := by
  rw [readO] at h
  split at h
  · rename_i h1; injection h with h; subst h
    exact ⟨ordOk_nil, bytes_eq.1 ((textO_list ordOk_nil).trans h1.symm)⟩
  · split at h
    · rename_i h1; injection h with h; subst h; exact h1
    · cases h
theorem cutA_nil (sep : UInt8) : cutA sep [] [] = [[]] := rfl
theorem stepS_nil : stepS [] = none := by rw [stepS, cutA_nil, if_neg (by decide)]
/-- The model reads the same. -/
theorem readO_model {s : ByteArray} (hs : s.data.toList ≠ nothingB) {c : List TP} (h : allS (cutA 59 [] s.data.toList) = some c) : readO s = if textO c = s then some c else none := by
  split
  · rename_i e
    rcases hc : ordOk c with _ | _
    · rw [textO_no hc] at e
      subst e
      have h : allS [[]] = some c := h
      rw [allS, stepS_nil] at h; cases h
    · rw [← e]; exact readO_text hc
  · rename_i e
    rcases hr : readO s with _ | d
    · rfl
    · obtain ⟨h1, h2⟩ := readO_some hr
      exfalso
      subst h2
      rw [textO_list h1] at h hs
      cases d with
      | nil => exact hs rfl
      | cons p r =>
        rw [candOS_list h1] at h; injection h with h; subst h; exact e rfl
theorem readO_none {s : ByteArray} (hs : s.data.toList ≠ nothingB) (h : allS (cutA 59 [] s.data.toList) = none) : readO s = none := by
  rcases hr : readO s with _ | d
  · rfl
  · obtain ⟨h1, h2⟩ := readO_some hr
    exfalso
    subst h2
    rw [textO_list h1] at h hs
    cases d with
    | nil => exact hs rfl
    | cons p r => rw [candOS_list h1] at h; cases h
theorem stepW_last (p : TP) : ∃ l d, stepW p = l ++ [d] ∧ d ≠ 59 := by
  rcases List.eq_nil_or_concat (Lib.decDigits p.1.toNat) with e | ⟨l, d, e⟩
  · have := Lib.decDigits_length p.1.toNat
    rw [e] at this
    have h2 : 0 < Lib.nDigits p.1.toNat := by
      by_cases h : p.1.toNat < 10
      · rw [Lib.nDigits_small h]; omega
      · rw [Lib.nDigits_big h]; omega
    simp at this; omega
  · refine ⟨wordO p.2 ++ 32 :: l, d, by rw [stepW, e]; simp, ?_⟩
    exact dec_ne _ 59 (by decide) d (by rw [e]; simp)
theorem listO_last (ss : List TP) : ∃ l d, listO ss = l ++ [d] ∧ d ≠ 59 := by
  cases ss with
  | nil => exact ⟨[110, 111, 116, 104, 105, 110], 103, rfl, by decide⟩
  | cons p r =>
    induction r generalizing p with
    | nil => obtain ⟨l, d, h⟩ := stepW_last p; exact ⟨l, d, by rw [listO]; simpa using h.1, h.2⟩
    | cons q r ih =>
      obtain ⟨l, d, h1, h2⟩ := ih q
      refine ⟨stepW p ++ 59 :: l, d, ?_, h2⟩
      have e : listO (p :: q :: r) = stepW p ++ 59 :: listO (q :: r) := by simp [listO]
      rw [e, h1]; simp
theorem take_snocT {α : Type} {zs : List α} {k : Nat} {z : α} (h : zs[k]? = some z) : zs.take (k + 1) = zs.take k ++ [z] := by rw [List.take_add_one, h]; rfl
theorem readO_semi (s : ByteArray) : readO (s ++ ⟨#[59]⟩) = none := by
  rcases hr : readO (s ++ ⟨#[59]⟩) with _ | d
  · first | exact hr | rfl
  · obtain ⟨h1, h2⟩ := readO_some hr
    exfalso
    obtain ⟨l, x, h3, h4⟩ := listO_last d
    have e : (textO d).data.toList = (s ++ ⟨#[59]⟩).data.toList := by rw [h2]
    rw [textO_list h1, h3] at e
    have e2 : (s ++ ⟨#[59]⟩ : ByteArray).data.toList = s.data.toList ++ [59] := by simp
    rw [e2] at e
    have := congrArg List.getLast? e
    simp at this
    exact h4 this
theorem textO_empty {ss : List TP} : textO ss = ⟨#[]⟩ ↔ ordOk ss = false := by
  constructor
  · intro h
    rcases hc : ordOk ss with _ | _
    · rfl
    · exfalso
      have := textO_list hc
      rw [h] at this
      exact listO_pos ss this.symm
  · exact textO_no
end Go.Proofs.YtfedffekbemcoaaDoor
