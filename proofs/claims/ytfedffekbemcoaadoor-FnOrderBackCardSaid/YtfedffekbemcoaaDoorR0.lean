/- Reading of texts, plain facts: pieces between bytes, numerals, words of lines. -/
import Derived.Test.YtfedffekbemcoaaDoorBPA
import Derived.Lib.Split
import Derived.Lib.IndexMore
import Derived.Lib.ItoaNum
import Derived.Lib.AtoiAllCases
namespace Go.Proofs.YtfedffekbemcoaaDoor
open Go.RowKit

abbrev Bs := List UInt8
/-- The pieces between the bytes sep; cur stands ahead of the first one. -/
def cutA (sep : UInt8) : Bs → Bs → List Bs
  | cur, [] => [cur]
  | cur, c :: r => if c = sep then cur :: cutA sep [] r else cutA sep (cur ++ [c]) r
theorem cutA_over {sep : UInt8} {w : Bs} : ∀ {r cur : Bs}, (∀ c ∈ w, c ≠ sep) → cutA sep cur (w ++ r) = cutA sep (cur ++ w) r := by
  induction w with
  | nil => intro r cur _; simp
  | cons c w ih =>
    intro r cur h
    rw [List.cons_append, cutA, if_neg (h c (by simp)), ih (fun c hc => h c (by simp [hc]))]
    simp
theorem cutA_words {sep : UInt8} (ws : List Bs) : ∀ (cur w : Bs), (∀ c ∈ w, c ≠ sep) → (∀ x ∈ ws, ∀ c ∈ x, c ≠ sep) → cutA sep cur (w ++ ws.flatMap (fun x => sep :: x)) = (cur ++ w) :: ws := by
  induction ws with
  | nil => intro cur w h _; rw [List.flatMap_nil, cutA_over h]; rfl
  | cons x ws ih =>
    intro cur w h hs
    rw [cutA_over h, List.flatMap_cons, List.cons_append, cutA, if_pos rfl, ih [] x (hs x (by simp)) (fun y hy => hs y (by simp [hy]))]
    rfl
theorem cutA_ne (sep : UInt8) : ∀ (r cur : Bs), cutA sep cur r ≠ []
  | [], cur => by simp [cutA]
  | c :: r, cur => by
    rw [cutA]; split
    · simp
    · exact cutA_ne sep r _
theorem cutA_len (sep : UInt8) : ∀ (r cur : Bs), (cutA sep cur r).length ≤ r.length + 1
  | [], cur => by simp [cutA]
  | c :: r, cur => by
    rw [cutA]; split
    · have := cutA_len sep r []; simp; omega
    · have := cutA_len sep r (cur ++ [c]); simp; omega

theorem index_hit {sep : UInt8} {w : Bs} (r : Bs) (h : ∀ c ∈ w, c ≠ sep) : Lib.index (w ++ sep :: r) [sep] = (w.length : Int) := by
  induction w with
  | nil => simp [Lib.index, List.isPrefixOf]
  | cons c w ih =>
    have hc : (sep == c) = false := by simpa using (h c (by simp)).symm
    have e := ih (fun c hc => h c (by simp [hc]))
    rw [List.cons_append, Lib.index, e]
    have : ((w.length : Int) == -1) = false := by rw [beq_eq_false_iff_ne]; omega
    simp [List.isPrefixOf, hc, this]
theorem index_miss {sep : UInt8} {w : Bs} (h : ∀ c ∈ w, c ≠ sep) : Lib.index w [sep] = -1 := by
  induction w with
  | nil => simp [Lib.index]
  | cons c w ih =>
    have hc : (sep == c) = false := by simpa using (h c (by simp)).symm
    rw [Lib.index, ih (fun c hc => h c (by simp [hc]))]
    simp [List.isPrefixOf, hc]
theorem splitK_miss {sep : UInt8} {w : Bs} (h : ∀ c ∈ w, c ≠ sep) (k : Nat) : Lib.splitK [sep] 0 k w = [w] := by
  cases k with
  | zero => rfl
  | succ k => rw [Lib.splitK, index_miss h]; rfl
theorem splitK_words {sep : UInt8} (ws : List Bs) : ∀ (k : Nat) (w : Bs), ws.length ≤ k → (∀ c ∈ w, c ≠ sep) → (∀ x ∈ ws, ∀ c ∈ x, c ≠ sep) → Lib.splitK [sep] 0 k (w ++ ws.flatMap (fun x => sep :: x)) = w :: ws := by
  induction ws with
  | nil => intro k w _ h _; rw [List.flatMap_nil, List.append_nil]; exact splitK_miss h k
  | cons x ws ih =>
    intro k w hk h hs
    cases k with
    | zero => simp at hk
    | succ k =>
      rw [List.flatMap_cons, List.cons_append, Lib.splitK, index_hit _ h]
      have : ((w.length : Int) == -1) = false := by rw [beq_eq_false_iff_ne]; omega
      have e : List.drop (w.length + 1) (w ++ sep :: (x ++ ws.flatMap (fun x => sep :: x))) = x ++ ws.flatMap (fun x => sep :: x) := by
        rw [List.drop_append, List.drop_of_length_le (by omega)]
        simp
      rw [this]
      simp only [Bool.false_eq_true, if_false, Int.toNat_natCast, Nat.add_zero, List.length_cons, List.length_nil, Nat.zero_add]
      rw [e, ih k x (by simpa using hk) (hs x (by simp)) (fun y hy => hs y (by simp [hy])), List.take_left]
theorem cut_hit {sep : UInt8} {w : Bs} (r : Bs) (h : ∀ c ∈ w, c ≠ sep) : Lib.cut (w ++ sep :: r) [sep] = (w, r, true) := by
  unfold Lib.cut
  rw [index_hit r h, if_pos (by omega)]
  simp only [Int.toNat_natCast, List.length_cons, List.length_nil, Nat.zero_add]
  rw [List.take_left, List.drop_append, List.drop_of_length_le (by omega)]
  simp

/-! Numerals -/
theorem digit_nat {d : Nat} (h : d < 10) : (UInt8.ofNat (48 + d)).toNat = 48 + d := by
  rw [UInt8.toNat_ofNat']; omega
theorem dec_byte (n : Nat) : ∀ c ∈ Lib.decDigits n, 48 ≤ c.toNat ∧ c.toNat ≤ 57 := by
  induction n using Nat.strongRecOn with
  | _ n ih =>
    intro c hc
    rw [Lib.decDigits] at hc
    split at hc
    · simp only [List.mem_cons, List.not_mem_nil, or_false] at hc
      subst hc; rw [digit_nat (by assumption)]; omega
    · rw [List.mem_append] at hc
      rcases hc with hc | hc
      · exact ih (n / 10) (by omega) c hc
      · simp only [List.mem_cons, List.not_mem_nil, or_false] at hc
        subst hc; rw [digit_nat (Nat.mod_lt _ (by decide))]; omega
theorem dec_ne (n : Nat) (s : UInt8) (hs : s.toNat < 48 ∨ 57 < s.toNat) : ∀ c ∈ Lib.decDigits n, c ≠ s := by
  rintro c hc rfl
  have := dec_byte n c hc
  omega
theorem dec_cases {n : Nat} (h : n ≤ 999) : (n < 10 ∧ Lib.decDigits n = [UInt8.ofNat (48 + n)]) ∨ (10 ≤ n ∧ n < 100 ∧ Lib.decDigits n = [UInt8.ofNat (48 + n / 10), UInt8.ofNat (48 + n % 10)]) ∨
    (100 ≤ n ∧ Lib.decDigits n = [UInt8.ofNat (48 + n / 10 / 10), UInt8.ofNat (48 + n / 10 % 10), UInt8.ofNat (48 + n % 10)]) := by
  by_cases h1 : n < 10
  · exact .inl ⟨h1, Lib.decDigits_one h1⟩
  by_cases h2 : n < 100
  · exact .inr (.inl ⟨by omega, h2, Lib.decDigits_two h1 h2⟩)
  · refine .inr (.inr ⟨by omega, ?_⟩)
    rw [Lib.decDigits, dif_neg h1, Lib.decDigits_two (by omega) (by omega)]
    rfl

/-- What the model's l1Read makes of a text. -/
def valA : Int → Bs → Int
  | acc, [] => acc
  | acc, c :: r => if 48 ≤ c.toNat ∧ c.toNat ≤ 57 then valA (10 * acc + ((c.toNat : Int) - 48)) r else -1
def readS (l : Bs) : Int := if l.length < 1 ∨ 3 < l.length ∨ (1 < l.length ∧ l.head? = some 48) then -1 else valA 0 l
theorem readS_dec {n : Nat} (h : n ≤ 999) : readS (Lib.decDigits n) = n := by
  rcases dec_cases h with ⟨h1, e⟩ | ⟨h1, h2, e⟩ | ⟨h1, e⟩
  · rw [e]
    have := digit_nat h1
    simp only [readS, List.length_cons, List.length_nil, valA, this]
    rw [if_neg (by simp), if_pos (by omega)]; omega
  · rw [e]
    have d0 := digit_nat (d := n / 10) (by omega)
    have d1 := digit_nat (d := n % 10) (by omega)
    have hne : UInt8.ofNat (48 + n / 10) ≠ 48 := fun e => by rw [e] at d0; simp at d0; omega
    simp only [readS, List.length_cons, List.length_nil, valA, d0, d1, List.head?_cons]
    rw [if_neg (fun h => by rcases h with h | h | h <;> first | omega | exact hne (Option.some.inj h.2)), if_pos (by omega), if_pos (by omega)]; omega
  · rw [e]
    have d0 := digit_nat (d := n / 10 / 10) (by omega)
    have d1 := digit_nat (d := n / 10 % 10) (by omega)
    have d2 := digit_nat (d := n % 10) (by omega)
    have hne : UInt8.ofNat (48 + n / 10 / 10) ≠ 48 := fun e => by rw [e] at d0; simp at d0; omega
    simp only [readS, List.length_cons, List.length_nil, valA, d0, d1, d2, List.head?_cons]
    rw [if_neg (fun h => by rcases h with h | h | h <;> first | omega | exact hne (Option.some.inj h.2)), if_pos (by omega), if_pos (by omega), if_pos (by omega)]; omega
/-- What the program's numberIn makes of a text. -/
def numP (l : Bs) : Int := match Lib.atoiAll l with | .ok v => v | _ => -1
theorem uint_digits {ds : Bs} : ∀ {acc : Nat}, (∀ c ∈ ds, 48 ≤ c.toNat ∧ c.toNat ≤ 57) → acc ≤ 999 → ds.length ≤ 3 → Lib.parseUint10 acc ds = .ok (ds.foldl (fun a c => a * 10 + (c.toNat - 48)) acc) ∨ 99999 < acc := by
  intro acc h ha hl
  left
  match ds, h, hl with
  | [], _, _ => rfl
  | [a], h, _ =>
    have h0 := h a (by simp)
    simp only [Lib.parseUint10, List.foldl]
    rw [if_pos h0, if_neg (by omega), if_neg (by omega)]
  | [a, b], h, _ =>
    have h0 := h a (by simp); have h1 := h b (by simp)
    simp only [Lib.parseUint10, List.foldl]
    rw [if_pos h0, if_neg (by omega), if_neg (by omega), if_pos h1, if_neg (by omega), if_neg (by omega)]
  | [a, b, c], h, _ =>
    have h0 := h a (by simp); have h1 := h b (by simp); have h2 := h c (by simp)
    simp only [Lib.parseUint10, List.foldl]
    rw [if_pos h0, if_neg (by omega), if_neg (by omega), if_pos h1, if_neg (by omega), if_neg (by omega), if_pos h2, if_neg (by omega), if_neg (by omega)]
theorem numP_of {l : Bs} {n : Nat} (hne : l ≠ []) (h : ∀ c ∈ l, 48 ≤ c.toNat ∧ c.toNat ≤ 57) (hp : Lib.parseUint10 0 l = .ok n) (hn : n ≤ 999) : numP l = n := by
  match l, hne, h, hp with
  | c :: r, _, h, hp =>
    have h0 := h c (by simp)
    rw [numP, Lib.atoiAll_plain c r (by omega) (by omega), Lib.parseMag, if_neg (by simp), hp]
    simp only [Lib.signless]
    rw [if_neg (by omega)]
theorem numP_dec {n : Nat} (h : n ≤ 999) : numP (Lib.decDigits n) = n := by
  have hb := dec_byte n
  rcases dec_cases h with ⟨h1, e⟩ | ⟨h1, h2, e⟩ | ⟨h1, e⟩
  all_goals
    rw [e] at hb ⊢
    refine numP_of (by simp) hb ?_ h
    rcases uint_digits (acc := 0) hb (by omega) (by simp) with h3 | h3
    · rw [h3]
      simp only [List.foldl]
      congr 1
      simp only [UInt8.toNat_ofNat']
      omega
    · omega

/-- The word of a line. -/
def wordOf (l : L3) : Bs := Lib.decDigits l.1.toNat ++ 45 :: (Lib.decDigits l.2.1.toNat ++ 58 :: Lib.decDigits l.2.2.toNat)
theorem wordOf_ne (l : L3) : ∀ c ∈ wordOf l, c ≠ 32 := by
  intro c hc
  simp only [wordOf, List.mem_append, List.mem_cons] at hc
  rcases hc with hc | rfl | hc | rfl | hc
  · exact dec_ne _ 32 (by decide) c hc
  · decide
  · exact dec_ne _ 32 (by decide) c hc
  · decide
  · exact dec_ne _ 32 (by decide) c hc
def lineSR (w : Bs) : L3 :=
  if (cutA 58 [] w).length = 2 ∧ (cutA 45 [] ((cutA 58 [] w).getD 0 [])).length = 2 then
    (readS ((cutA 45 [] ((cutA 58 [] w).getD 0 [])).getD 0 []), readS ((cutA 45 [] ((cutA 58 [] w).getD 0 [])).getD 1 []), readS ((cutA 58 [] w).getD 1 []))
  else (0, 0, 0)
def lineP (w : Bs) : L3 := (numP (Lib.cut (Lib.cut w [58]).1 [45]).1, numP (Lib.cut (Lib.cut w [58]).1 [45]).2.1, numP (Lib.cut w [58]).2.1)
def fits (l : L3) : Prop := 0 ≤ l.1 ∧ l.1 ≤ 999 ∧ 0 ≤ l.2.1 ∧ l.2.1 ≤ 999 ∧ 0 ≤ l.2.2 ∧ l.2.2 ≤ 999
theorem left_ne (a b : Nat) : ∀ c ∈ Lib.decDigits a ++ 45 :: Lib.decDigits b, c ≠ 58 := by
  intro c hc
  simp only [List.mem_append, List.mem_cons] at hc
  rcases hc with hc | rfl | hc
  · exact dec_ne _ 58 (by decide) c hc
  · decide
  · exact dec_ne _ 58 (by decide) c hc
theorem wordOf_split (l : L3) : wordOf l = (Lib.decDigits l.1.toNat ++ 45 :: Lib.decDigits l.2.1.toNat) ++ 58 :: Lib.decDigits l.2.2.toNat := by simp [wordOf]
theorem cutA_two {sep : UInt8} {a b : Bs} (ha : ∀ c ∈ a, c ≠ sep) (hb : ∀ c ∈ b, c ≠ sep) : cutA sep [] (a ++ sep :: b) = [a, b] := by
  have := cutA_words [b] [] a ha (by simpa using hb)
  simpa using this
theorem lineSR_word {l : L3} (h : fits l) : lineSR (wordOf l) = l := by
  obtain ⟨x, y, z⟩ := l
  obtain ⟨h1, h2, h3, h4, h5, h6⟩ := h
  simp only at h1 h2 h3 h4 h5 h6
  have e1 : cutA 58 [] (wordOf (x, y, z)) = [Lib.decDigits x.toNat ++ 45 :: Lib.decDigits y.toNat, Lib.decDigits z.toNat] := by
    rw [wordOf_split]; exact cutA_two (left_ne _ _) (dec_ne _ 58 (by decide))
  have e2 : cutA 45 [] (Lib.decDigits x.toNat ++ 45 :: Lib.decDigits y.toNat) = [Lib.decDigits x.toNat, Lib.decDigits y.toNat] := cutA_two (dec_ne _ 45 (by decide)) (dec_ne _ 45 (by decide))
  simp only [lineSR, e1, List.getD_cons_zero, List.getD_cons_succ, e2, List.length_cons, List.length_nil]
  rw [if_pos (by decide), readS_dec (by omega), readS_dec (by omega), readS_dec (by omega), Int.toNat_of_nonneg h1, Int.toNat_of_nonneg h3, Int.toNat_of_nonneg h5]
theorem lineP_word {l : L3} (h : fits l) : lineP (wordOf l) = l := by
  obtain ⟨x, y, z⟩ := l
  obtain ⟨h1, h2, h3, h4, h5, h6⟩ := h
  simp only at h1 h2 h3 h4 h5 h6
  have e1 : Lib.cut (wordOf (x, y, z)) [58] = (Lib.decDigits x.toNat ++ 45 :: Lib.decDigits y.toNat, Lib.decDigits z.toNat, true) := by
    rw [wordOf_split]; exact cut_hit _ (left_ne _ _)
  have e2 : Lib.cut (Lib.decDigits x.toNat ++ 45 :: Lib.decDigits y.toNat) [45] = (Lib.decDigits x.toNat, Lib.decDigits y.toNat, true) := cut_hit _ (dec_ne _ 45 (by decide))
  simp only [lineP, e1, e2]
  rw [numP_dec (by omega), numP_dec (by omega), numP_dec (by omega), Int.toNat_of_nonneg h1, Int.toNat_of_nonneg h3, Int.toNat_of_nonneg h5]

def candS (s : Bs) : Int × List L3 := (readS ((cutA 32 [] s).getD 0 []), (cutA 32 [] s).tail.map lineSR)
def candP (s : Bs) : Int × List L3 := (numP ((Lib.splitK [32] 0 (min 12 (s.length + 1) - 1) s).getD 0 []), (Lib.splitK [32] 0 (min 12 (s.length + 1) - 1) s).tail.map lineP)
/-- The text of a network, as a list of bytes. -/
def listOf (bs : Int) (ls : List L3) : Bs := Lib.decDigits bs.toNat ++ ls.flatMap fun l => 32 :: wordOf l
theorem listOf_words (bs : Int) (ls : List L3) : listOf bs ls = Lib.decDigits bs.toNat ++ (ls.map wordOf).flatMap fun x => 32 :: x := by
  rw [listOf, List.flatMap_map]
theorem listOf_len (bs : Int) (ls : List L3) : ls.length ≤ (listOf bs ls).length := by
  rw [listOf, List.length_append]
  have : ls.length ≤ (ls.flatMap fun l => 32 :: wordOf l).length := by
    induction ls with
    | nil => simp
    | cons l ls ih => rw [List.flatMap_cons, List.length_append, List.length_cons, List.length_cons]; omega
  omega
theorem netOk_fits {bs : Int} {ls : List L3} (h : netOk bs ls = true) : ∀ l ∈ ls, fits l := by
  intro l hl
  obtain ⟨k, hk, rfl⟩ := List.getElem_of_mem hl
  have h2 := netOk_line h (List.getElem?_eq_getElem hk)
  have h3 := netOk_len h
  simp [lineOk, inB] at h2
  refine ⟨?_, ?_, ?_, ?_, ?_, ?_⟩ <;> omega
theorem candS_text {bs : Int} {ls : List L3} (h : netOk bs ls = true) : candS (listOf bs ls) = (bs, ls) := by
  have hb := netOk_len h
  have e : cutA 32 [] (listOf bs ls) = Lib.decDigits bs.toNat :: ls.map wordOf := by
    rw [listOf_words]
    exact cutA_words (ls.map wordOf) [] _ (dec_ne _ 32 (by decide)) (fun x hx => by obtain ⟨l, _, rfl⟩ := List.mem_map.1 hx; exact wordOf_ne l)
  have hm : (ls.map wordOf).map lineSR = ls := by
    rw [List.map_map]
    conv => rhs; rw [← List.map_id ls]
    exact List.map_congr_left fun l hl => lineSR_word (netOk_fits h l hl)
  simp only [candS, e, List.getD_cons_zero, List.tail_cons, hm]
  rw [readS_dec (by omega), Int.toNat_of_nonneg (by omega)]
theorem candP_text {bs : Int} {ls : List L3} (h : netOk bs ls = true) : candP (listOf bs ls) = (bs, ls) := by
  have hb := netOk_len h
  have hl := listOf_len bs ls
  have e : Lib.splitK [32] 0 (min 12 ((listOf bs ls).length + 1) - 1) (listOf bs ls) = Lib.decDigits bs.toNat :: ls.map wordOf := by
    generalize hk : min 12 ((listOf bs ls).length + 1) - 1 = k
    have hk2 : ls.length ≤ k := by omega
    rw [listOf_words]
    exact splitK_words (ls.map wordOf) k _ (by simpa using hk2) (dec_ne _ 32 (by decide)) (fun x hx => by obtain ⟨l, _, rfl⟩ := List.mem_map.1 hx; exact wordOf_ne l)
  have hm : (ls.map wordOf).map lineP = ls := by
    rw [List.map_map]
    conv => rhs; rw [← List.map_id ls]
    exact List.map_congr_left fun l hl => lineP_word (netOk_fits h l hl)
  simp only [candP, e, List.getD_cons_zero, List.tail_cons, hm]
  rw [numP_dec (by omega), Int.toNat_of_nonneg (by omega)]
end Go.Proofs.YtfedffekbemcoaaDoor
