/- Plain words for networks (no program): lines as triples, validity, and rows of lines in memory. -/
import Derived.Below
import Derived.Lib.Hide
import Derived.WalkKit
import Derived.Laws.MakeOwn
import Derived.Laws.Rows
import Derived.Deep.QuietTactic
namespace Go.Proofs.YtobbmnbkjeoheaaDoor
open Go.RowKit

abbrev L3 := Int × Int × Int
def inB (x a b : Int) : Bool := decide (a ≤ x) && decide (x ≤ b)
def lineOk (n : Int) (l : L3) : Bool := inB l.1 0 (n - 1) && inB l.2.1 0 (n - 1) && (l.1 != l.2.1) && inB l.2.2 1 999
def netOk (bs : Int) (ls : List L3) : Bool := inB bs 1 8 && decide (ls.length ≤ 10) && ls.all (lineOk bs)
def endsB (l : L3) (bus : Int) : Bool := l.1 == bus || l.2.1 == bus

def otherF (bs : Int) (ls : List L3) (line bus : Int) : Int :=
  if netOk bs ls = true ∧ 0 ≤ line ∧ line < ls.length then (if (ls.getD line.toNat (0, 0, 0)).1 = bus then (ls.getD line.toNat (0, 0, 0)).2.1 else if (ls.getD line.toNat (0, 0, 0)).2.1 = bus then (ls.getD line.toNat (0, 0, 0)).1 else -1) else -1
def joins (a b : Int) (l : L3) : Bool := (l.1 == a && l.2.1 == b) || (l.1 == b && l.2.1 == a)
def firstF (p : L3 → Bool) (ls : List L3) : Int := match ls.findIdx? p with | some k => (k : Int) | none => -1
def betweenF (bs : Int) (ls : List L3) (a b : Int) : Int := if netOk bs ls = true then firstF (joins a b) ls else -1
/-- The lines among the first k that end at a bus. -/
def atTo (ls : List L3) (bus : Int) (k : Nat) : List Int := ((List.range k).filter fun j => endsB (ls.getD j (0, 0, 0)) bus).map Int.ofNat
def linesAtF (bs : Int) (ls : List L3) (bus : Int) : List Int := if netOk bs ls = true then atTo ls bus ls.length else []
theorem atTo_yes {ls : List L3} {bus : Int} {k : Nat} {l : L3} (h : ls[k]? = some l) (hl : endsB l bus = true) : atTo ls bus (k + 1) = atTo ls bus k ++ [(k : Int)] := by
  have : ls.getD k (0, 0, 0) = l := by rw [List.getD_eq_getElem?_getD, h]; rfl
  rw [atTo, List.range_succ, List.filter_append, List.map_append, List.filter_cons, this, hl]; rfl
theorem atTo_no {ls : List L3} {bus : Int} {k : Nat} {l : L3} (h : ls[k]? = some l) (hl : endsB l bus = false) : atTo ls bus (k + 1) = atTo ls bus k := by
  have : ls.getD k (0, 0, 0) = l := by rw [List.getD_eq_getElem?_getD, h]; rfl
  rw [atTo, List.range_succ, List.filter_append, List.map_append, List.filter_cons, this, hl]; simp [atTo]
theorem atTo_len (ls : List L3) (bus : Int) (k : Nat) : (atTo ls bus k).length ≤ k := by
  rw [atTo, List.length_map]; exact Nat.le_trans (List.length_filter_le _ _) (by simp)
theorem netOk_len {bs : Int} {ls : List L3} (h : netOk bs ls = true) : 1 ≤ bs ∧ bs ≤ 8 ∧ ls.length ≤ 10 := by
  simp only [netOk, inB, Bool.and_eq_true, decide_eq_true_eq] at h; exact ⟨h.1.1.1, h.1.1.2, h.1.2⟩
theorem netOk_line {bs : Int} {ls : List L3} (h : netOk bs ls = true) {k : Nat} {l : L3} (hk : ls[k]? = some l) : lineOk bs l = true := by
  simp only [netOk, Bool.and_eq_true] at h; exact List.all_eq_true.1 h.2 l (List.mem_of_getElem? hk)
theorem lineOk_ne {bs : Int} {l : L3} (h : lineOk bs l = true) : l.1 ≠ l.2.1 := by
  simp only [lineOk, Bool.and_eq_true, bne_iff_ne] at h; exact h.1.2
theorem firstF_some {p : L3 → Bool} {ls : List L3} {k : Nat} {l : L3} (hk : ls[k]? = some l) (hp : p l = true) (hb : ∀ j, j < k → ∀ x, ls[j]? = some x → p x = false) : firstF p ls = k := by
  have : ls.findIdx? p = some k := by
    rw [List.findIdx?_eq_some_iff_getElem]
    obtain ⟨hlt, he⟩ := List.getElem?_eq_some_iff.1 hk
    refine ⟨hlt, by rw [he]; exact hp, fun j hj => ?_⟩
    have := hb j hj ls[j] (List.getElem?_eq_getElem (by omega))
    simp [this]
  simp [firstF, this]
theorem firstF_none {p : L3 → Bool} {ls : List L3} (hb : ∀ j, j < ls.length → ∀ x, ls[j]? = some x → p x = false) : firstF p ls = -1 := by
  have : ls.findIdx? p = none := by
    rw [List.findIdx?_eq_none_iff]
    intro x hx
    obtain ⟨j, hj, rfl⟩ := List.getElem_of_mem hx
    exact hb j hj _ (List.getElem?_eq_getElem hj)
  simp [firstF, this]
theorem nope_succ {p : L3 → Bool} {ls : List L3} {k : Nat} {x : L3} (h : ∀ j, j < k → ∀ l, ls[j]? = some l → p l = false) (hx : ls[k]? = some x) (hp : p x = false) : ∀ j, j < k + 1 → ∀ l, ls[j]? = some l → p l = false := by
  intro j hj l hl
  rcases Nat.lt_or_ge j k with h1 | h1
  · exact h j h1 l hl
  · obtain rfl : j = k := by omega
    rw [hx] at hl; cases hl; exact hp
theorem retB {a b : Bool} (h : a = b) : Ending.returned (.bool a) = .returned (.bool b) := by rw [h]
theorem retI {a b : Int} (h : a = b) : Ending.returned (.int .i64 a) = .returned (.int .i64 b) := by rw [h]
theorem below_bx (w : World) (o : Obj) : Below w.heap.size w (w.alloc o) := (Below.refl _ _).alloc (Nat.le_refl _) _
theorem all_stop {α : Type} {p : α → Bool} {ls : List α} {k : Nat} {l : α} (h : ls[k]? = some l) (hp : p l = false) : ls.all p = false := by
  rw [List.all_eq_false]; exact ⟨l, List.mem_of_getElem? h, by simp [hp]⟩
theorem all_of {α : Type} {p : α → Bool} {ls : List α} {n : Nat} (hn : ls.length = n) (h : ∀ j, j < n → ∀ l, ls[j]? = some l → p l = true) : ls.all p = true := by
  rw [List.all_eq_true]; intro l hl
  obtain ⟨j, hj, rfl⟩ := List.getElem_of_mem hl
  exact h j (by omega) _ (List.getElem?_eq_getElem hj)
theorem upto_succ {α : Type} {p : α → Bool} {ls : List α} {k : Nat} {x : α} (h : ∀ j, j < k → ∀ l, ls[j]? = some l → p l = true) (hx : ls[k]? = some x) (hp : p x = true) : ∀ j, j < k + 1 → ∀ l, ls[j]? = some l → p l = true := by
  intro j hj l hl
  rcases Nat.lt_or_ge j k with h1 | h1
  · exact h j h1 l hl
  · obtain rfl : j = k := by omega
    rw [hx] at hl; cases hl; exact hp

/-- The lines ls lie at block b from off on, three cells each. -/
def LinesAt (w : World) (b off : Nat) (ls : List L3) : Prop := ∀ k l, ls[k]? = some l → w.cell? ⟨b, off + k * 3, none⟩ = some (.int .i64 l.1) ∧ w.cell? ⟨b, off + k * 3 + 1, none⟩ = some (.int .i64 l.2.1) ∧ w.cell? ⟨b, off + k * 3 + 2, none⟩ = some (.int .i64 l.2.2)
/-- A slice of n lines reads as ls; it may be nil if it is empty. -/
def RowL (w : World) (A : Option Addr) (n : Nat) (ls : List L3) : Prop := ls.length = n ∧ (0 < n → ∃ b off, A = some ⟨b, off, none⟩ ∧ b < w.heap.size ∧ LinesAt w b off ls)
theorem RowL.below {w w' : World} {A : Option Addr} {n : Nat} {ls : List L3} (h : RowL w A n ls) (hb : Below w.heap.size w w') : RowL w' A n ls := by
  refine ⟨h.1, fun hn => ?_⟩
  obtain ⟨b, off, e, hlt, hc⟩ := h.2 hn
  refine ⟨b, off, e, Nat.lt_of_lt_of_le hlt hb.size, fun k l hk => ?_⟩
  obtain ⟨h0, h1, h2⟩ := hc k l hk
  exact ⟨(hb.cell (p := ⟨b, off + k * 3, none⟩) hlt).trans h0, (hb.cell (p := ⟨b, off + k * 3 + 1, none⟩) hlt).trans h1, (hb.cell (p := ⟨b, off + k * 3 + 2, none⟩) hlt).trans h2⟩

/-! Blocks that are known whole, as rows of elements of m cells each -/
def rowArr {α : Type} (f : α → List Value) (xs : List α) : Array Value := (xs.flatMap f).toArray
def putAll (arr : Array Value) (i : Nat) : List Value → Array Value
  | [] => arr
  | v :: vs => putAll (arr.setIfInBounds i v) (i + 1) vs
theorem flat_get {α : Type} {f : α → List Value} {m : Nat} (hm : ∀ a, (f a).length = m) : ∀ (xs : List α) (k : Nat) (x : α) (j : Nat), xs[k]? = some x → j < m → (xs.flatMap f)[k * m + j]? = (f x)[j]?
  | [], k, x, j, h, hj => by simp at h
  | a :: t, 0, x, j, h, hj => by
    simp at h; subst h
    rw [List.flatMap_cons, List.getElem?_append_left (by rw [hm]; omega)]; simp
  | a :: t, k + 1, x, j, h, hj => by
    have ih := flat_get hm t k x j (by simpa using h) hj
    rw [List.flatMap_cons, List.getElem?_append_right (by rw [hm]; rw [Nat.succ_mul]; omega), hm, ← ih]
    congr 1; rw [Nat.succ_mul]; omega
theorem rowArr_get {α : Type} {f : α → List Value} {m : Nat} (hm : ∀ a, (f a).length = m) {xs : List α} {k : Nat} {x : α} (h : xs[k]? = some x) (j : Nat) (hj : j < m) : (rowArr f xs)[k * m + j]? = (f x)[j]? := by
  simp only [rowArr, List.getElem?_toArray]; exact flat_get hm xs k x j h hj
theorem putAll_size (vs : List Value) : ∀ (arr : Array Value) (i : Nat), (putAll arr i vs).size = arr.size := by
  induction vs with
  | nil => intro arr i; rfl
  | cons v vs ih => intro arr i; rw [putAll, ih]; simp
theorem putAll_list (vs : List Value) : ∀ (pre old post : List Value), old.length = vs.length → putAll (pre ++ old ++ post).toArray pre.length vs = (pre ++ vs ++ post).toArray := by
  induction vs with
  | nil => intro pre old post h; simp at h; simp [h, putAll]
  | cons v vs ih =>
    intro pre old post h
    match old, h with
    | o :: os, h =>
      have h' : os.length = vs.length := by simpa using h
      have := ih (pre ++ [v]) os post h'
      rw [putAll]
      simp only [List.append_assoc, List.length_append, List.length_cons, List.length_nil] at this
      simp only [List.append_assoc, List.cons_append, List.setIfInBounds_toArray, List.set_append_right _ _ (Nat.le_refl _), Nat.sub_self, List.set_cons_zero]
      simpa using this
theorem putAll_row {α : Type} {f : α → List Value} {m : Nat} (hm : ∀ a, (f a).length = m) (pre post : List α) (o l : α) : putAll (rowArr f (pre ++ o :: post)) (pre.length * m) (f l) = rowArr f (pre ++ l :: post) := by
  have h := putAll_list (f l) (pre.flatMap f) (f o) (post.flatMap f) (by rw [hm, hm])
  have hl : (pre.flatMap f).length = pre.length * m := by
    induction pre with
    | nil => simp
    | cons a t ih => rw [List.flatMap_cons, List.length_append, hm, ih (by exact putAll_list (f l) (t.flatMap f) (f o) (post.flatMap f) (by rw [hm, hm])), List.length_cons, Nat.succ_mul]; omega
  rw [hl] at h
  simpa [rowArr, List.flatMap_append, List.flatMap_cons] using h
theorem madeCells_row {α : Type} {f : α → List Value} {m : Nat} (hm : ∀ a, (f a).length = m) (z : Array Value) (o : α) (hz : z.toList = f o) (h0 : 0 < m) (n : Nat) : madeCells z (n * m) = rowArr f (List.replicate n o) := by
  have hzs : z.size = m := by rw [← Array.length_toList, hz, hm]
  apply Array.ext_getElem?
  intro i
  by_cases hi : i < n * m
  · have hk : (List.replicate n o)[i / m]? = some o := by
      rw [List.getElem?_replicate, if_pos (by rw [Nat.div_lt_iff_lt_mul h0]; exact hi)]
    have := rowArr_get (f := f) hm hk (i % m) (Nat.mod_lt _ h0)
    rw [Nat.mul_comm, Nat.div_add_mod] at this
    rw [this, ← hz]
    have hlt : i % m < z.size := by rw [hzs]; exact Nat.mod_lt _ h0
    have hbang : z[i % m]! = z[i % m] := getElem!_pos z (i % m) hlt
    simp [madeCells, hi, hzs, Array.getElem?_eq_getElem hlt, hbang]
  · have h1 : (madeCells z (n * m)).size ≤ i := by rw [size_madeCells]; omega
    have h2 : (rowArr f (List.replicate n o)).size ≤ i := by
      have : ((List.replicate n o).flatMap f).length = n * m := by
        clear hi h1 hzs hz
        induction n with
        | zero => simp
        | succ n ih => rw [List.replicate_succ, List.flatMap_cons, List.length_append, hm, ih, Nat.succ_mul]; omega
      simp only [rowArr, List.size_toArray]; omega
    rw [Array.getElem?_eq_none h1, Array.getElem?_eq_none h2]

/-- A slice of ints of the call's own. -/
def OwnI (e : TypeId) (w : World) (base : Nat) (v : Value) (xs : List Int) : Prop := w.ownsRow base e 1 v xs.length (xs.map (Value.int .i64))
theorem OwnI.keep {e : TypeId} {w w' : World} {base : Nat} {v : Value} {xs : List Int} (h : OwnI e w base v xs) (hb : Below w.heap.size w w') : OwnI e w' base v xs :=
  World.ownsRow.kept (row := none) h ⟨hb.os, hb.tape, hb.output, hb.size, fun i hi _ => hb.block i hi⟩ (Classical.em _)
theorem OwnI.alloc {e : TypeId} {w : World} {base : Nat} {v : Value} {xs : List Int} (h : OwnI e w base v xs) (o : Obj) : OwnI e (w.alloc o) base v xs := h.keep (below_bx w o)
theorem OwnI.nil {e : TypeId} {w : World} {base : Nat} : OwnI e w base (.slice none 0 0) [] := World.ownsRow_nil _ _ _ _
def IsBlk (w : World) (g : Nat) (t : TypeId) (cs : Array Value) : Prop := w.heap[g]? = some (.cells cs t (0, 0))
theorem IsBlk.lt {w : World} {g : Nat} {t : TypeId} {cs : Array Value} (h : IsBlk w g t cs) : g < w.heap.size := by
  rcases Nat.lt_or_ge g w.heap.size with h1 | h1
  · exact h1
  · rw [IsBlk, Array.getElem?_eq_none h1] at h; cases h
theorem IsBlk.cell {w : World} {g : Nat} {t : TypeId} {cs : Array Value} (h : IsBlk w g t cs) (i : Nat) : w.cell? ⟨g, i, none⟩ = cs[i]? := cell_of_row w g i cs t (0, 0) h
theorem IsBlk.thaw {w : World} {g : Nat} {t : TypeId} {cs : Array Value} (h : IsBlk w g t cs) (i : Nat) : w.frozen? ⟨g, i, none⟩ = false := by
  rw [IsBlk] at h; simp [World.frozen?, h]
theorem IsBlk.new (w : World) (t : TypeId) (cs : Array Value) : IsBlk (w.alloc (.cells cs t)) w.heap.size t cs := heap_alloc_new w _
theorem IsBlk.alloc {w : World} {g : Nat} {t : TypeId} {cs : Array Value} (h : IsBlk w g t cs) (o : Obj) : IsBlk (w.alloc o) g t cs := (Below.heap_alloc w o g h.lt).trans h
theorem IsBlk.below {w w' : World} {g B : Nat} {t : TypeId} {cs : Array Value} (h : IsBlk w g t cs) (hb : Below B w w') (hg : g < B) : IsBlk w' g t cs := (hb.block g hg).trans h
theorem IsBlk.far {w : World} {g : Nat} {t : TypeId} {cs : Array Value} (h : IsBlk w g t cs) {p : Addr} (hp : g ≠ p.block) (u : Value) : IsBlk (w.setCell p u) g t cs := (Below.heap_setCell w p u g hp).trans h
theorem IsBlk.put {w : World} {g : Nat} {t : TypeId} {cs : Array Value} (h : IsBlk w g t cs) (i : Nat) (u : Value) : IsBlk (w.setCell ⟨g, i, none⟩ u) g t (cs.setIfInBounds i u) := by
  rw [IsBlk] at h ⊢; simp [World.setCell, Array.getElem?_modify, h]

theorem IsBlk.keep {w w' : World} {g : Nat} {t : TypeId} {cs : Array Value} (h : IsBlk w g t cs) (hb : Below w.heap.size w w') : IsBlk w' g t cs := h.below hb h.lt
/-- A block of two cells, cell by cell. -/
theorem IsBlk.two {w : World} {g : Nat} {t : TypeId} {u v : Value} (h : IsBlk w g t #[u, v]) : w.cell? ⟨g, 0, none⟩ = some u ∧ w.cell? ⟨g, 1, none⟩ = some v ∧ w.frozen? ⟨g, 0, none⟩ = false ∧ w.frozen? ⟨g, 1, none⟩ = false := ⟨h.cell 0, h.cell 1, h.thaw 0, h.thaw 1⟩
theorem IsBlk.three {w : World} {g : Nat} {t : TypeId} {u v x : Value} (h : IsBlk w g t #[u, v, x]) : w.cell? ⟨g, 0, none⟩ = some u ∧ w.cell? ⟨g, 1, none⟩ = some v ∧ w.cell? ⟨g, 2, none⟩ = some x ∧ w.frozen? ⟨g, 0, none⟩ = false ∧ w.frozen? ⟨g, 1, none⟩ = false ∧ w.frozen? ⟨g, 2, none⟩ = false := ⟨h.cell 0, h.cell 1, h.cell 2, h.thaw 0, h.thaw 1, h.thaw 2⟩
theorem IsBlk.at_ {w : World} {o : Obj} {g n : Nat} {t : TypeId} {cs : Array Value} (e : w.heap.size = n) (ho : o = .cells cs t (0, 0)) (hg : g = n) : IsBlk (w.alloc o) g t cs := by subst ho hg e; exact IsBlk.new w t cs

theorem below_drewN {B : Nat} {a w : World} (h : Below B a w) (n : Nat) : Below B a (w.drewN n) := ⟨h.os, h.tape, h.output, h.size, h.block⟩

theorem grown_then {a b c : World} {row : Option Nat} (h : a.grownBy b row) (k : b.grownBy c row) : a.grownBy c row :=
  ⟨k.os.trans h.os, k.tape.trans h.tape, k.output.trans h.output, Nat.le_trans h.size k.size, fun i hi hne => (k.block i (Nat.lt_of_lt_of_le hi h.size) hne).trans (h.block i hi hne)⟩
theorem grown_put (w : World) (g i : Nat) (u : Value) : w.grownBy (w.setCell ⟨g, i, none⟩ u) (some g) := ⟨rfl, rfl, rfl, by simp [World.setCell], fun q _ hne => Below.heap_setCell _ _ _ _ (fun e => hne (by rw [e]))⟩
theorem flat_len {α : Type} {f : α → List Value} {m : Nat} (hm : ∀ a, (f a).length = m) : ∀ xs : List α, (xs.flatMap f).length = xs.length * m
  | [] => by simp
  | a :: t => by rw [List.flatMap_cons, List.length_append, hm, flat_len hm t, List.length_cons, Nat.succ_mul]; omega
theorem grown_alloc (w : World) (o : Obj) (row : Option Nat) : w.grownBy (w.alloc o) row := ⟨rfl, rfl, rfl, by simp, fun k hk _ => Below.heap_alloc w o k hk⟩

def fL (l : L3) : List Value := [.int .i64 l.1, .int .i64 l.2.1, .int .i64 l.2.2]
theorem fL_len (l : L3) : (fL l).length = 3 := rfl
/-- A block of lines reads as a slice of them. -/
theorem IsBlk.row {w : World} {g : Nat} {t : TypeId} {ls : List L3} {n : Nat} (h : IsBlk w g t (rowArr fL ls)) (hn : ls.length = n) : RowL w (some ⟨g, 0, none⟩) n ls := by
  refine ⟨hn, fun _ => ⟨g, 0, rfl, h.lt, fun k l hk => ?_⟩⟩
  have e := rowArr_get (f := fL) fL_len hk
  rw [h.cell, h.cell, h.cell]
  simp only [Nat.zero_add]
  exact ⟨e 0 (by omega), e 1 (by omega), e 2 (by omega)⟩
end Go.Proofs.YtobbmnbkjeoheaaDoor
