/- Plain words for states (no program): rows of truths and of numbers in memory, numbers of states, changes. -/
import Derived.Test.YtobbmnbkjeoheaaDoorBase
import Derived.Below
import Derived.Laws.OwnMore
import Derived.Deep.AppendLies
import Derived.Deep.Draws
namespace Go.Proofs.YtobbmnbkjeoheaaDoor
open Go.RowKit

/-- A slice of n cells that reads as the values xs; it may be nil if it is empty. -/
def RowV (w : World) (A : Option Addr) (n : Nat) (xs : List Value) : Prop :=
  xs.length = n ∧ (0 < n → ∃ b off, A = some ⟨b, off, none⟩ ∧ b < w.heap.size ∧ ∀ k x, xs[k]? = some x → w.cell? ⟨b, off + k, none⟩ = some x)
section
variable {w w' : World} {A : Option Addr} {n : Nat} {xs : List Value}
theorem RowV.below (h : RowV w A n xs) (hb : Below w.heap.size w w') : RowV w' A n xs := by
  refine ⟨h.1, fun hn => ?_⟩
  obtain ⟨b, off, e, hlt, hc⟩ := h.2 hn
  exact ⟨b, off, e, Nat.lt_of_lt_of_le hlt hb.size, fun k x hk => (hb.cell (p := ⟨b, off + k, none⟩) hlt).trans (hc k x hk)⟩
theorem RowV.drew (h : RowV w A n xs) : RowV w.drew A n xs := h
theorem RowV.none_ {w : World} {A : Option Addr} : RowV w A 0 [] := ⟨rfl, fun h => absurd h (by omega)⟩
theorem RowV.grown (h : RowV w A n xs) {row : Option Nat} (hg : w.grownBy w' row) (hne : ∀ b off, A = some ⟨b, off, none⟩ → row ≠ some b) : RowV w' A n xs := by
  refine ⟨h.1, fun hn => ?_⟩
  obtain ⟨b, off, e, hlt, hc⟩ := h.2 hn
  exact ⟨b, off, e, Nat.lt_of_lt_of_le hlt hg.size, fun k x hk => (World.cell?_of_block (a := ⟨b, off + k, none⟩) (hg.block b hlt (fun e2 => hne b off e e2.symm))).trans (hc k x hk)⟩
end
/-- A slice of truths; a slice of numbers. -/
def RowT (w : World) (A : Option Addr) (n : Nat) (ts : List Bool) : Prop := RowV w A n (ts.map Value.bool)
def RowZ (w : World) (A : Option Addr) (n : Nat) (zs : List Int) : Prop := RowV w A n (zs.map (Value.int .i64))
section
variable {w w' : World} {A : Option Addr} {n : Nat} {ts : List Bool} {zs : List Int}
theorem RowT.len (h : RowT w A n ts) : ts.length = n := by have := h.1; simpa using this
theorem RowZ.len (h : RowZ w A n zs) : zs.length = n := by have := h.1; simpa using this
theorem RowT.below (h : RowT w A n ts) (hb : Below w.heap.size w w') : RowT w' A n ts := RowV.below h hb
theorem RowZ.below (h : RowZ w A n zs) (hb : Below w.heap.size w w') : RowZ w' A n zs := RowV.below h hb
theorem RowT.none_ {w : World} {A : Option Addr} : RowT w A 0 [] := RowV.none_
theorem RowZ.none_ {w : World} {A : Option Addr} : RowZ w A 0 [] := RowV.none_
theorem RowT.at_ (h : RowT w A n ts) {k : Nat} (hk : k < n) : ∃ b off t, A = some ⟨b, off, none⟩ ∧ b < w.heap.size ∧ ts[k]? = some t ∧ w.cell? ⟨b, off + k, none⟩ = some (.bool t) := by
  obtain ⟨b, off, e, hlt, hc⟩ := h.2 (by omega)
  have hl : k < ts.length := by have := h.len; omega
  exact ⟨b, off, ts[k], e, hlt, List.getElem?_eq_getElem hl, hc k _ (by rw [List.getElem?_map, List.getElem?_eq_getElem hl]; rfl)⟩
theorem RowZ.at_ (h : RowZ w A n zs) {k : Nat} (hk : k < n) : ∃ b off z, A = some ⟨b, off, none⟩ ∧ b < w.heap.size ∧ zs[k]? = some z ∧ w.cell? ⟨b, off + k, none⟩ = some (.int .i64 z) := by
  obtain ⟨b, off, e, hlt, hc⟩ := h.2 (by omega)
  have hl : k < zs.length := by have := h.len; omega
  exact ⟨b, off, zs[k], e, hlt, List.getElem?_eq_getElem hl, hc k _ (by rw [List.getElem?_map, List.getElem?_eq_getElem hl]; rfl)⟩
/-- A block that begins with truths reads as a slice of them. -/
theorem IsBlk.truths {w : World} {g : Nat} {t : TypeId} {cs : Array Value} (h : IsBlk w g t cs) (ht : cs.toList.take n = ts.map Value.bool) (hn : ts.length = n) : RowT w (some ⟨g, 0, none⟩) n ts := by
  refine ⟨by simpa using hn, fun hp => ⟨g, 0, rfl, h.lt, fun k x hk => ?_⟩⟩
  have hkn : k < n := by have := (List.getElem?_eq_some_iff.1 hk).1; simp at this; omega
  rw [h.cell, Nat.zero_add, ← Array.getElem?_toList]
  rw [← ht, List.getElem?_take_of_lt hkn] at hk
  exact hk
end

/-- A slice of truths of the call's own: empty, or the head of a block from base on. -/
def OwnT (w : World) (base : Nat) (v : Value) (ts : List Bool) : Prop :=
  (∃ A c, v = .slice A 0 c ∧ ts = []) ∨ (0 < ts.length ∧ ∃ g cap t cur, v = .slice (some ⟨g, 0, none⟩) ts.length cap ∧ base ≤ g ∧ IsBlk w g t cur ∧ ts.length ≤ cap ∧ ts.length ≤ cur.size ∧ cur.toList.take ts.length = ts.map Value.bool)
/-- The block that holds them, if there are any. -/
def tblk (v : Value) (ts : List Bool) : Option Nat := if ts.length = 0 then none else v.ownBlock
section
variable {w w' : World} {base : Nat} {v : Value} {ts : List Bool}
theorem OwnT.nil {w : World} {base : Nat} : OwnT w base (.slice none 0 0) [] := .inl ⟨none, 0, rfl, rfl⟩
theorem OwnT.mk {g n cap : Nat} {t : TypeId} {cur : Array Value} (hn : ts.length = n) (hb : base ≤ g) (hg : IsBlk w g t cur) (hc : n ≤ cap) (hs : n ≤ cur.size) (ht : cur.toList.take n = ts.map Value.bool) : OwnT w base (.slice (some ⟨g, 0, none⟩) n cap) ts := by
  subst hn
  rcases Nat.eq_zero_or_pos ts.length with h0 | h0
  · exact .inl ⟨_, cap, by rw [h0], List.eq_nil_of_length_eq_zero h0⟩
  · exact .inr ⟨h0, g, cap, t, cur, rfl, hb, hg, hc, hs, ht⟩
theorem OwnT.of_own {e : TypeId} {n : Nat} (h : w.ownsRow base e 1 v n (ts.map Value.bool)) : OwnT w base v ts := by
  have hl : ts.length = n := by have := h.1; simpa using this
  rcases h.2 with ⟨h1, h2⟩ | ⟨g, cap, cur, h1, h2, h3, h4, h5, h6, h7⟩
  · exact .inl ⟨none, 0, h1, List.eq_nil_of_length_eq_zero (by omega)⟩
  · subst hl; subst h1
    exact OwnT.mk (t := e) (cur := cur) rfl h2 h3 h4 (by omega) (by simpa using h7)
theorem OwnT.keep (h : OwnT w base v ts) (hb : Below w.heap.size w w') : OwnT w' base v ts := by
  rcases h with h | ⟨h0, g, cap, t, cur, h1, h2, h3, h4⟩
  · exact .inl h
  · exact .inr ⟨h0, g, cap, t, cur, h1, h2, h3.keep hb, h4⟩
theorem OwnT.alloc (h : OwnT w base v ts) (o : Obj) : OwnT (w.alloc o) base v ts := h.keep (below_bx w o)
theorem OwnT.drew (h : OwnT w base v ts) : OwnT w.drew base v ts := h
theorem OwnT.more {base' : Nat} (h : OwnT w base v ts) (hb : base' ≤ base) : OwnT w base' v ts := by
  rcases h with h | ⟨h0, g, cap, t, cur, h1, h2, h3, h4⟩
  · exact .inl h
  · exact .inr ⟨h0, g, cap, t, cur, h1, Nat.le_trans hb h2, h3, h4⟩
theorem OwnT.far {row : Option Nat} (h : OwnT w base v ts) (hg : w.grownBy w' row) (hne : ∀ q, tblk v ts = some q → row ≠ some q) : OwnT w' base v ts := by
  rcases h with h | ⟨h0, g, cap, t, cur, h1, h2, h3, h4⟩
  · exact .inl h
  · refine .inr ⟨h0, g, cap, t, cur, h1, h2, (hg.block g h3.lt (fun e => hne g ?_ e.symm)).trans h3, h4⟩
    rw [tblk, if_neg (by omega), h1]; rfl
theorem OwnT.lt (h : OwnT w base v ts) : ∀ q, tblk v ts = some q → base ≤ q ∧ q < w.heap.size := by
  intro q hq
  rcases h with ⟨A, c, _, h⟩ | ⟨h0, g, cap, t, cur, h1, h2, h3, h4⟩
  · subst h; cases hq
  · rw [tblk, if_neg (by omega), h1] at hq; injection hq with hq; subst hq; exact ⟨h2, h3.lt⟩
theorem OwnT.row (h : OwnT w base v ts) : ∃ A c, v = .slice A ts.length c ∧ ts.length ≤ c ∧ RowT w A ts.length ts := by
  rcases h with ⟨A, c, h1, rfl⟩ | ⟨h0, g, cap, t, cur, h1, h2, h3, h4, h5, h6⟩
  · exact ⟨A, c, h1, by simp, RowT.none_⟩
  · exact ⟨_, cap, h1, h4, h3.truths h6 rfl⟩
end

theorem IsBlk.farG {w w' : World} {g : Nat} {t : TypeId} {cs : Array Value} {row : Option Nat} (h : IsBlk w g t cs) (hg : w.grownBy w' row) (hne : row = some g → False) : IsBlk w' g t cs :=
  (hg.block g h.lt (fun e => hne e.symm)).trans h
theorem OwnT.rowT {w : World} {base n c : Nat} {A : Option Addr} {ts : List Bool} (h : OwnT w base (.slice A n c) ts) : RowT w A n ts := by
  obtain ⟨A', c', he, _, hr⟩ := h.row
  injection he with e1 e2 e3
  subst e1
  rw [e2]; exact hr
theorem OwnI.rowZ {w : World} {base n c : Nat} {e : TypeId} {A : Option Addr} {zs : List Int} (h : OwnI e w base (.slice A n c) zs) : RowZ w A n zs := by
  rcases h.2 with ⟨h1, h0⟩ | ⟨g, cap, cur, h1, hb, hg, hn, hc, hsz, ht⟩
  · injection h1 with e1 e2 e3
    subst e1 e2
    exact ⟨by simpa using h0, fun hp => absurd hp (by omega)⟩
  · injection h1 with e1 e2 e3
    subst e1 e2
    refine ⟨by simp, fun _ => ⟨g, 0, rfl, (Array.getElem?_eq_some_iff.1 hg).1, fun k x hk => ?_⟩⟩
    have hlt : k < zs.length := by have := (List.getElem?_eq_some_iff.1 hk).1; simpa using this
    rw [cell_of_row w g _ cur e (0, 0) hg, Nat.zero_add, ← Array.getElem?_toList]
    rw [← ht, List.getElem?_take_of_lt (by omega)] at hk
    exact hk

theorem OwnI.far {e : TypeId} {w w' : World} {base : Nat} {v : Value} {xs : List Int} {row : Option Nat} (h : OwnI e w base v xs) (hg : w.grownBy w' row) (hne : ∀ q, v.ownBlock = some q → row ≠ some q) : OwnI e w' base v xs := by
  refine World.ownsRow.kept h hg ?_
  rcases hq : v.ownBlock with _ | q
  · exact .inl rfl
  · exact .inr (fun e => hne q hq e.symm)
theorem OwnI.lt {e : TypeId} {w : World} {base : Nat} {v : Value} {xs : List Int} (h : OwnI e w base v xs) : ∀ q, v.ownBlock = some q → base ≤ q ∧ q < w.heap.size := fun q hq => World.ownsRow.lt h q hq
theorem OwnI.drewN {e : TypeId} {w : World} {base : Nat} {v : Value} {xs : List Int} (h : OwnI e w base v xs) (n : Nat) : OwnI e (w.drewN n) base v xs := h

/-! Numbers of states -/
def numF : List Bool → Int
  | [] => 0
  | t :: ts => 2 * numF ts + (if t = true then 1 else 0)
theorem numF_snoc (xs : List Bool) (t : Bool) : numF (xs ++ [t]) = numF xs + (if t = true then 2 ^ xs.length else 0) := by
  induction xs with
  | nil => simp [numF]
  | cons a xs ih =>
    rw [List.cons_append, numF, ih, numF, List.length_cons, Int.pow_succ]
    cases t <;> simp <;> omega
theorem numF_bd (ts : List Bool) : 0 ≤ numF ts ∧ numF ts < 2 ^ ts.length := by
  induction ts with
  | nil => simp [numF]
  | cons t ts ih =>
    rw [numF, List.length_cons, Int.pow_succ]
    cases t <;> simp <;> omega
def bitsF (m n : Nat) : List Bool := (List.range n).map fun k => decide (m / 2 ^ k % 2 = 1)
theorem bitsF_len (m n : Nat) : (bitsF m n).length = n := by simp [bitsF]
theorem bitsF_succ (m n : Nat) : bitsF m (n + 1) = bitsF m n ++ [decide (m / 2 ^ n % 2 = 1)] := by rw [bitsF, List.range_succ, List.map_append]; rfl
theorem bitsF_cons (m n : Nat) : bitsF m (n + 1) = decide (m % 2 = 1) :: bitsF (m / 2) n := by
  induction n with
  | zero => simp [bitsF]
  | succ n ih =>
    rw [bitsF_succ, ih, bitsF_succ, List.cons_append, Nat.div_div_eq_div_mul, Nat.pow_succ', ]
theorem numF_bitsF (m n : Nat) : numF (bitsF m n) = ((m % 2 ^ n : Nat) : Int) := by
  induction n generalizing m with
  | zero => simp [bitsF, numF, Nat.mod_one]
  | succ n ih =>
    rw [bitsF_cons, numF, ih, Nat.pow_succ', Nat.mod_mul]
    by_cases h : m % 2 = 1
    · simp [h]; omega
    · have : m % 2 = 0 := by omega
      simp [this]
theorem bitsF_numF (ts : List Bool) : bitsF (numF ts).toNat ts.length = ts := by
  induction ts with
  | nil => rfl
  | cons t ts ih =>
    have hb := numF_bd ts
    rw [List.length_cons, bitsF_cons]
    have e : (numF (t :: ts)).toNat / 2 = (numF ts).toNat := by rw [numF]; cases t <;> simp <;> omega
    have e2 : decide ((numF (t :: ts)).toNat % 2 = 1) = t := by rw [numF]; cases t <;> simp <;> omega
    rw [e, e2, ih]
def stNumF (ts : List Bool) : Int := if ts.length ≤ 10 then numF ts else -1
def stOfB (m l : Int) : Bool := decide (0 ≤ l) && decide (l ≤ 10) && decide (0 ≤ m) && decide (m < 2 ^ l.toNat)
def stOfF (m l : Int) : List Bool := if stOfB m l = true then bitsF m.toNat l.toNat else []

theorem stOfF_len (m l : Int) : (stOfF m l).length ≤ 10 := by
  rw [stOfF]; split
  · rename_i h
    simp only [stOfB, Bool.and_eq_true, decide_eq_true_eq] at h
    rw [bitsF_len]; omega
  · simp

/-! Changes -/
def chTo (a b : List Bool) (k : Nat) : List Int := ((List.range k).filter fun j => a.getD j false != b.getD j false).map Int.ofNat
def chF (a b : List Bool) : List Int := if a.length = b.length then chTo a b a.length else []
theorem chTo_len (a b : List Bool) (k : Nat) : (chTo a b k).length ≤ k := by
  rw [chTo, List.length_map]; exact Nat.le_trans (List.length_filter_le _ _) (by simp)
theorem chF_len (a b : List Bool) : (chF a b).length ≤ a.length := by
  rw [chF]; split
  · exact chTo_len _ _ _
  · simp
theorem chTo_yes {a b : List Bool} {k : Nat} {x y : Bool} (ha : a[k]? = some x) (hb : b[k]? = some y) (h : (x == y) = false) : chTo a b (k + 1) = chTo a b k ++ [(k : Int)] := by
  have e1 : a.getD k false = x := by rw [List.getD_eq_getElem?_getD, ha]; rfl
  have e2 : b.getD k false = y := by rw [List.getD_eq_getElem?_getD, hb]; rfl
  have : (a.getD k false != b.getD k false) = true := by rw [e1, e2]; simp [bne, h]
  rw [chTo, List.range_succ, List.filter_append, List.map_append, List.filter_cons, this]; rfl
theorem chTo_no {a b : List Bool} {k : Nat} {x y : Bool} (ha : a[k]? = some x) (hb : b[k]? = some y) (h : x = y) : chTo a b (k + 1) = chTo a b k := by
  have e1 : a.getD k false = x := by rw [List.getD_eq_getElem?_getD, ha]; rfl
  have e2 : b.getD k false = y := by rw [List.getD_eq_getElem?_getD, hb]; rfl
  have : (a.getD k false != b.getD k false) = false := by rw [e1, e2, h]; simp
  rw [chTo, List.range_succ, List.filter_append, List.map_append, List.filter_cons, this]; simp [chTo]

def flipAt (ts : List Bool) (l : Int) : List Bool := ts.set l.toNat (!ts.getD l.toNat false)
def chAll : List Bool → List Int → Option (List Bool)
  | ts, [] => some ts
  | ts, l :: ls => if 0 ≤ l ∧ l < ts.length then chAll (flipAt ts l) ls else none
theorem flipAt_len (ts : List Bool) (l : Int) : (flipAt ts l).length = ts.length := by simp [flipAt]
theorem chAll_len {ls : List Int} : ∀ {ts us : List Bool}, chAll ts ls = some us → us.length = ts.length := by
  induction ls with
  | nil => intro ts us h; injection h with h; rw [h]
  | cons l ls ih =>
    intro ts us h
    rw [chAll] at h
    split at h
    · rw [ih h, flipAt_len]
    · cases h
theorem chAll_snoc (ls : List Int) (l : Int) : ∀ ts : List Bool, chAll ts (ls ++ [l]) = (chAll ts ls).bind fun us => if 0 ≤ l ∧ l < us.length then some (flipAt us l) else none := by
  induction ls with
  | nil => intro ts; simp [chAll]
  | cons x ls ih =>
    intro ts
    rw [List.cons_append, chAll, chAll]
    split
    · exact ih _
    · rfl
theorem chAll_app (xs ys : List Int) : ∀ ts : List Bool, chAll ts (xs ++ ys) = (chAll ts xs).bind fun us => chAll us ys := by
  induction xs with
  | nil => intro ts; rfl
  | cons x xs ih =>
    intro ts
    rw [List.cons_append, chAll, chAll]
    split
    · exact ih _
    · rfl
theorem chAll_stop {ts us : List Bool} {ls : List Int} {k : Nat} {l : Int} (hk : ls[k]? = some l) (h : chAll ts (ls.take k) = some us) (hl : ¬ (0 ≤ l ∧ l < us.length)) : chAll ts ls = none := by
  have e : ls = ls.take k ++ l :: ls.drop (k + 1) := by
    obtain ⟨hlt, he⟩ := List.getElem?_eq_some_iff.1 hk
    rw [← he, List.getElem_cons_drop, List.take_append_drop]
  rw [e, chAll_app, h]
  show chAll us (l :: _) = none
  rw [chAll, if_neg hl]
theorem chAll_step {ts us : List Bool} {ls : List Int} {k : Nat} {l : Int} (hk : ls[k]? = some l) (h : chAll ts (ls.take k) = some us) (hl : 0 ≤ l ∧ l < us.length) : chAll ts (ls.take (k + 1)) = some (flipAt us l) := by
  rw [List.take_add_one, hk, Option.toList_some, chAll_snoc, h]
  simp [hl]
end Go.Proofs.YtobbmnbkjeoheaaDoor
