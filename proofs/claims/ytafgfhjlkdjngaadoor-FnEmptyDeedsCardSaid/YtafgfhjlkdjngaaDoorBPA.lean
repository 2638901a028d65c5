/- Texts joined: Plain words for networks (no program): lines as triples, validity, and rows of lines in memory; Plain words for states (no program): rows of truths and of numbers in memory, numbers of states, changes; Rows of the struct Bus in memory, no program (written by program). -/
import Derived.Below
import Derived.Lib.Hide
import Derived.WalkKit
import Derived.Laws.MakeOwn
import Derived.Laws.Rows
import Derived.Deep.QuietTactic
import Derived.Laws.OwnMore
import Derived.Deep.AppendLies
import Derived.Deep.Draws

/- Plain words for networks (no program): lines as triples, validity, and rows of lines in memory. -/
namespace Go.Proofs.YtafgfhjlkdjngaaDoor
open Go.RowKit

abbrev L3 := Int × Int × Int
def inB (x a b : Int) : Bool := decide (a ≤ x) && decide (x ≤ b)
def lineOk (n : Int) (l : L3) : Bool := inB l.1 0 (n - 1) && inB l.2.1 0 (n - 1) && (l.1 != l.2.1) && inB l.2.2 1 999
def netOk (bs : Int) (ls : List L3) : Bool := inB bs 1 8 && decide (ls.length ≤ 10) && ls.all (lineOk bs)
def endsB (l : L3) (bus : Int) : Bool := l.1 == bus || l.2.1 == bus

def otherF (bs : Int) (ls : List L3) (line bus : Int) : Int :=
  if netOk bs ls = true ∧ 0 ≤ line ∧ line < ls.length then (if (ls.getD line.toNat (0, 0, 0)).1 = bus then (ls.getD line.toNat (0, 0, 0)).2.1 else if (ls.getD line.toNat (0, 0, 0)).2.1 = bus then (ls.getD line.toNat (0, 0, 0)).1 else -1) else -1
def joins (a b : Int) (l : L3) : Bool := (l.1 == a && l.2.1 == b) || (l.1 == b && l.2.1 == a)
def firstF (p : L3 → Bool) (ls : List L3) : Int := match ls.findIdx? p with | some k => (k : Int) | none => -1
def betweenF (bs : Int) (ls : List L3) (a b : Int) : Int := if netOk bs ls = true then firstF (joins a b) ls else -1
/-- The lines among the first k that end at a bus. -/
def atTo (ls : List L3) (bus : Int) (k : Nat) : List Int := ((List.range k).filter fun j => endsB (ls.getD j (0, 0, 0)) bus).map Int.ofNat
def linesAtF (bs : Int) (ls : List L3) (bus : Int) : List Int := if netOk bs ls = true then atTo ls bus ls.length else []
theorem atTo_yes {ls : List L3} {bus : Int} {k : Nat} {l : L3} (h : ls[k]? = some l) (hl : endsB l bus = true) : atTo ls bus (k + 1) = atTo ls bus k ++ [(k : Int)] := by
  have : ls.getD k (0, 0, 0) = l := by rw [List.getD_eq_getElem?_getD, h]; rfl
  rw [atTo, List.range_succ, List.filter_append, List.map_append, List.filter_cons, this, hl]; rfl
theorem atTo_no {ls : List L3} {bus : Int} {k : Nat} {l : L3} (h : ls[k]? = some l) (hl : endsB l bus = false) : atTo ls bus (k + 1) = atTo ls bus k := by
  have : ls.getD k (0, 0, 0) = l := by rw [List.getD_eq_getElem?_getD, h]; rfl
  rw [atTo, List.range_succ, List.filter_append, List.map_append, List.filter_cons, this, hl]; simp [atTo]
theorem atTo_len (ls : List L3) (bus : Int) (k : Nat) : (atTo ls bus k).length ≤ k := by
  rw [atTo, List.length_map]; exact Nat.le_trans (List.length_filter_le _ _) (by simp)
theorem netOk_len {bs : Int} {ls : List L3} (h : netOk bs ls = true) : 1 ≤ bs ∧ bs ≤ 8 ∧ ls.length ≤ 10 := by
  simp only [netOk, inB, Bool.and_eq_true, decide_eq_true_eq] at h; exact ⟨h.1.1.1, h.1.1.2, h.1.2⟩
theorem netOk_line {bs : Int} {ls : List L3} (h : netOk bs ls = true) {k : Nat} {l : L3} (hk : ls[k]? = some l) : lineOk bs l = true := by
  simp only [netOk, Bool.and_eq_true] at h; exact List.all_eq_true.1 h.2 l (List.mem_of_getElem? hk)
theorem lineOk_ne {bs : Int} {l : L3} (h : lineOk bs l = true) : l.1 ≠ l.2.1 := by
  simp only [lineOk, Bool.and_eq_true, bne_iff_ne] at h; exact h.1.2
theorem firstF_some {p : L3 → Bool} {ls : List L3} {k : Nat} {l : L3} (hk : ls[k]? = some l) (hp : p l = true) (hb : ∀ j, j < k → ∀ x, ls[j]? = some x → p x = false) : firstF p ls = k := by
  have : ls.findIdx? p = some k := by
    rw [List.findIdx?_eq_some_iff_getElem]
    obtain ⟨hlt, he⟩ := List.getElem?_eq_some_iff.1 hk
    refine ⟨hlt, by rw [he]; exact hp, fun j hj => ?_⟩
    have := hb j hj ls[j] (List.getElem?_eq_getElem (by omega))
    simp [this]
  simp [firstF, this]
theorem firstF_none {p : L3 → Bool} {ls : List L3} (hb : ∀ j, j < ls.length → ∀ x, ls[j]? = some x → p x = false) : firstF p ls = -1 := by
  have : ls.findIdx? p = none := by
    rw [List.findIdx?_eq_none_iff]
    intro x hx
    obtain ⟨j, hj, rfl⟩ := List.getElem_of_mem hx
    exact hb j hj _ (List.getElem?_eq_getElem hj)
  simp [firstF, this]
theorem nope_succ {p : L3 → Bool} {ls : List L3} {k : Nat} {x : L3} (h : ∀ j, j < k → ∀ l, ls[j]? = some l → p l = false) (hx : ls[k]? = some x) (hp : p x = false) : ∀ j, j < k + 1 → ∀ l, ls[j]? = some l → p l = false := by
  intro j hj l hl
  rcases Nat.lt_or_ge j k with h1 | h1
  · exact h j h1 l hl
  · obtain rfl : j = k := by omega
    rw [hx] at hl; cases hl; exact hp
theorem retB {a b : Bool} (h : a = b) : Ending.returned (.bool a) = .returned (.bool b) := by rw [h]
theorem retI {a b : Int} (h : a = b) : Ending.returned (.int .i64 a) = .returned (.int .i64 b) := by rw [h]
theorem below_bx (w : World) (o : Obj) : Below w.heap.size w (w.alloc o) := (Below.refl _ _).alloc (Nat.le_refl _) _
theorem all_stop {α : Type} {p : α → Bool} {ls : List α} {k : Nat} {l : α} (h : ls[k]? = some l) (hp : p l = false) : ls.all p = false := by
  rw [List.all_eq_false]; exact ⟨l, List.mem_of_getElem? h, by simp [hp]⟩
theorem all_of {α : Type} {p : α → Bool} {ls : List α} {n : Nat} (hn : ls.length = n) (h : ∀ j, j < n → ∀ l, ls[j]? = some l → p l = true) : ls.all p = true := by
  rw [List.all_eq_true]; intro l hl
  obtain ⟨j, hj, rfl⟩ := List.getElem_of_mem hl
  exact h j (by omega) _ (List.getElem?_eq_getElem hj)
theorem upto_succ {α : Type} {p : α → Bool} {ls : List α} {k : Nat} {x : α} (h : ∀ j, j < k → ∀ l, ls[j]? = some l → p l = true) (hx : ls[k]? = some x) (hp : p x = true) : ∀ j, j < k + 1 → ∀ l, ls[j]? = some l → p l = true := by
  intro j hj l hl
  rcases Nat.lt_or_ge j k with h1 | h1
  · exact h j h1 l hl
  · obtain rfl : j = k := by omega
    rw [hx] at hl; cases hl; exact hp

/-- The lines ls lie at block b from off on, three cells each. -/
def LinesAt (w : World) (b off : Nat) (ls : List L3) : Prop := ∀ k l, ls[k]? = some l → w.cell? ⟨b, off + k * 3, none⟩ = some (.int .i64 l.1) ∧ w.cell? ⟨b, off + k * 3 + 1, none⟩ = some (.int .i64 l.2.1) ∧ w.cell? ⟨b, off + k * 3 + 2, none⟩ = some (.int .i64 l.2.2)
/-- A slice of n lines reads as ls; it may be nil if it is empty. -/
def RowL (w : World) (A : Option Addr) (n : Nat) (ls : List L3) : Prop := ls.length = n ∧ (0 < n → ∃ b off, A = some ⟨b, off, none⟩ ∧ b < w.heap.size ∧ LinesAt w b off ls)
theorem RowL.below {w w' : World} {A : Option Addr} {n : Nat} {ls : List L3} (h : RowL w A n ls) (hb : Below w.heap.size w w') : RowL w' A n ls := by
  refine ⟨h.1, fun hn => ?_⟩
  obtain ⟨b, off, e, hlt, hc⟩ := h.2 hn
  refine ⟨b, off, e, Nat.lt_of_lt_of_le hlt hb.size, fun k l hk => ?_⟩
  obtain ⟨h0, h1, h2⟩ := hc k l hk
  exact ⟨(hb.cell (p := ⟨b, off + k * 3, none⟩) hlt).trans h0, (hb.cell (p := ⟨b, off + k * 3 + 1, none⟩) hlt).trans h1, (hb.cell (p := ⟨b, off + k * 3 + 2, none⟩) hlt).trans h2⟩

/-! Blocks that are known whole, as rows of elements of m cells each -/
def rowArr {α : Type} (f : α → List Value) (xs : List α) : Array Value := (xs.flatMap f).toArray
def putAll (arr : Array Value) (i : Nat) : List Value → Array Value
  | [] => arr
  | v :: vs => putAll (arr.setIfInBounds i v) (i + 1) vs
theorem flat_get {α : Type} {f : α → List Value} {m : Nat} (hm : ∀ a, (f a).length = m) : ∀ (xs : List α) (k : Nat) (x : α) (j : Nat), xs[k]? = some x → j < m → (xs.flatMap f)[k * m + j]? = (f x)[j]?
  | [], k, x, j, h, hj => by simp at h
  | a :: t, 0, x, j, h, hj => by
    simp at h; subst h
    rw [List.flatMap_cons, List.getElem?_append_left (by rw [hm]; omega)]; simp
  | a :: t, k + 1, x, j, h, hj => by
    have ih := flat_get hm t k x j (by simpa using h) hj
    rw [List.flatMap_cons, List.getElem?_append_right (by rw [hm]; rw [Nat.succ_mul]; omega), hm, ← ih]
    congr 1; rw [Nat.succ_mul]; omega
theorem rowArr_get {α : Type} {f : α → List Value} {m : Nat} (hm : ∀ a, (f a).length = m) {xs : List α} {k : Nat} {x : α} (h : xs[k]? = some x) (j : Nat) (hj : j < m) : (rowArr f xs)[k * m + j]? = (f x)[j]? := by
  simp only [rowArr, List.getElem?_toArray]; exact flat_get hm xs k x j h hj
theorem putAll_size (vs : List Value) : ∀ (arr : Array Value) (i : Nat), (putAll arr i vs).size = arr.size := by
  induction vs with
  | nil => intro arr i; rfl
  | cons v vs ih => intro arr i; rw [putAll, ih]; simp
theorem putAll_list (vs : List Value) : ∀ (pre old post : List Value), old.length = vs.length → putAll (pre ++ old ++ post).toArray pre.length vs = (pre ++ vs ++ post).toArray := by
  induction vs with
  | nil => intro pre old post h; simp at h; simp [h, putAll]
  | cons v vs ih =>
    intro pre old post h
    match old, h with
    | o :: os, h =>
      have h' : os.length = vs.length := by simpa using h
      have := ih (pre ++ [v]) os post h'
      rw [putAll]
      simp only [List.append_assoc, List.length_append, List.length_cons, List.length_nil] at this
      simp only [List.append_assoc, List.cons_append, List.setIfInBounds_toArray, List.set_append_right _ _ (Nat.le_refl _), Nat.sub_self, List.set_cons_zero]
      simpa using this
theorem putAll_row {α : Type} {f : α → List Value} {m : Nat} (hm : ∀ a, (f a).length = m) (pre post : List α) (o l : α) : putAll (rowArr f (pre ++ o :: post)) (pre.length * m) (f l) = rowArr f (pre ++ l :: post) := by
  have h := putAll_list (f l) (pre.flatMap f) (f o) (post.flatMap f) (by rw [hm, hm])
  have hl : (pre.flatMap f).length = pre.length * m := by
    induction pre with
    | nil => simp
    | cons a t ih => rw [List.flatMap_cons, List.length_append, hm, ih (by exact putAll_list (f l) (t.flatMap f) (f o) (post.flatMap f) (by rw [hm, hm])), List.length_cons, Nat.succ_mul]; omega
  rw [hl] at h
  simpa [rowArr, List.flatMap_append, List.flatMap_cons] using h
theorem madeCells_row {α : Type} {f : α → List Value} {m : Nat} (hm : ∀ a, (f a).length = m) (z : Array Value) (o : α) (hz : z.toList = f o) (h0 : 0 < m) (n : Nat) : madeCells z (n * m) = rowArr f (List.replicate n o) := by
  have hzs : z.size = m := by rw [← Array.length_toList, hz, hm]
  apply Array.ext_getElem?
  intro i
  by_cases hi : i < n * m
  · have hk : (List.replicate n o)[i / m]? = some o := by
      rw [List.getElem?_replicate, if_pos (by rw [Nat.div_lt_iff_lt_mul h0]; exact hi)]
    have := rowArr_get (f := f) hm hk (i % m) (Nat.mod_lt _ h0)
    rw [Nat.mul_comm, Nat.div_add_mod] at this
    rw [this, ← hz]
    have hlt : i % m < z.size := by rw [hzs]; exact Nat.mod_lt _ h0
    have hbang : z[i % m]! = z[i % m] := getElem!_pos z (i % m) hlt
    simp [madeCells, hi, hzs, Array.getElem?_eq_getElem hlt, hbang]
  · have h1 : (madeCells z (n * m)).size ≤ i := by rw [size_madeCells]; omega
    have h2 : (rowArr f (List.replicate n o)).size ≤ i := by
      have : ((List.replicate n o).flatMap f).length = n * m := by
        clear hi h1 hzs hz
        induction n with
        | zero => simp
        | succ n ih => rw [List.replicate_succ, List.flatMap_cons, List.length_append, hm, ih, Nat.succ_mul]; omega
      simp only [rowArr, List.size_toArray]; omega
    rw [Array.getElem?_eq_none h1, Array.getElem?_eq_none h2]

/-- A slice of ints of the call's own. -/
def OwnI (e : TypeId) (w : World) (base : Nat) (v : Value) (xs : List Int) : Prop := w.ownsRow base e 1 v xs.length (xs.map (Value.int .i64))
theorem OwnI.keep {e : TypeId} {w w' : World} {base : Nat} {v : Value} {xs : List Int} (h : OwnI e w base v xs) (hb : Below w.heap.size w w') : OwnI e w' base v xs :=
  World.ownsRow.kept (row := none) h ⟨hb.os, hb.tape, hb.output, hb.size, fun i hi _ => hb.block i hi⟩ (Classical.em _)
theorem OwnI.alloc {e : TypeId} {w : World} {base : Nat} {v : Value} {xs : List Int} (h : OwnI e w base v xs) (o : Obj) : OwnI e (w.alloc o) base v xs := h.keep (below_bx w o)
theorem OwnI.nil {e : TypeId} {w : World} {base : Nat} : OwnI e w base (.slice none 0 0) [] := World.ownsRow_nil _ _ _ _
def IsBlk (w : World) (g : Nat) (t : TypeId) (cs : Array Value) : Prop := w.heap[g]? = some (.cells cs t (0, 0))
theorem IsBlk.lt {w : World} {g : Nat} {t : TypeId} {cs : Array Value} (h : IsBlk w g t cs) : g < w.heap.size := by
  rcases Nat.lt_or_ge g w.heap.size with h1 | h1
  · exact h1
  · rw [IsBlk, Array.getElem?_eq_none h1] at h; cases h
theorem IsBlk.cell {w : World} {g : Nat} {t : TypeId} {cs : Array Value} (h : IsBlk w g t cs) (i : Nat) : w.cell? ⟨g, i, none⟩ = cs[i]? := cell_of_row w g i cs t (0, 0) h
theorem IsBlk.thaw {w : World} {g : Nat} {t : TypeId} {cs : Array Value} (h : IsBlk w g t cs) (i : Nat) : w.frozen? ⟨g, i, none⟩ = false := by
  rw [IsBlk] at h; simp [World.frozen?, h]
theorem IsBlk.new (w : World) (t : TypeId) (cs : Array Value) : IsBlk (w.alloc (.cells cs t)) w.heap.size t cs := heap_alloc_new w _
theorem IsBlk.alloc {w : World} {g : Nat} {t : TypeId} {cs : Array Value} (h : IsBlk w g t cs) (o : Obj) : IsBlk (w.alloc o) g t cs := (Below.heap_alloc w o g h.lt).trans h
theorem IsBlk.below {w w' : World} {g B : Nat} {t : TypeId} {cs : Array Value} (h : IsBlk w g t cs) (hb : Below B w w') (hg : g < B) : IsBlk w' g t cs := (hb.block g hg).trans h
theorem IsBlk.far {w : World} {g : Nat} {t : TypeId} {cs : Array Value} (h : IsBlk w g t cs) {p : Addr} (hp : g ≠ p.block) (u : Value) : IsBlk (w.setCell p u) g t cs := (Below.heap_setCell w p u g hp).trans h
theorem IsBlk.put {w : World} {g : Nat} {t : TypeId} {cs : Array Value} (h : IsBlk w g t cs) (i : Nat) (u : Value) : IsBlk (w.setCell ⟨g, i, none⟩ u) g t (cs.setIfInBounds i u) := by
  rw [IsBlk] at h ⊢; simp [World.setCell, Array.getElem?_modify, h]

theorem IsBlk.keep {w w' : World} {g : Nat} {t : TypeId} {cs : Array Value} (h : IsBlk w g t cs) (hb : Below w.heap.size w w') : IsBlk w' g t cs := h.below hb h.lt
/-- A block of two cells, cell by cell. -/
theorem IsBlk.two {w : World} {g : Nat} {t : TypeId} {u v : Value} (h : IsBlk w g t #[u, v]) : w.cell? ⟨g, 0, none⟩ = some u ∧ w.cell? ⟨g, 1, none⟩ = some v ∧ w.frozen? ⟨g, 0, none⟩ = false ∧ w.frozen? ⟨g, 1, none⟩ = false := ⟨h.cell 0, h.cell 1, h.thaw 0, h.thaw 1⟩
theorem IsBlk.three {w : World} {g : Nat} {t : TypeId} {u v x : Value} (h : IsBlk w g t #[u, v, x]) : w.cell? ⟨g, 0, none⟩ = some u ∧ w.cell? ⟨g, 1, none⟩ = some v ∧ w.cell? ⟨g, 2, none⟩ = some x ∧ w.frozen? ⟨g, 0, none⟩ = false ∧ w.frozen? ⟨g, 1, none⟩ = false ∧ w.frozen? ⟨g, 2, none⟩ = false := ⟨h.cell 0, h.cell 1, h.cell 2, h.thaw 0, h.thaw 1, h.thaw 2⟩
theorem IsBlk.at_ {w : World} {o : Obj} {g n : Nat} {t : TypeId} {cs : Array Value} (e : w.heap.size = n) (ho : o = .cells cs t (0, 0)) (hg : g = n) : IsBlk (w.alloc o) g t cs := by subst ho hg e; exact IsBlk.new w t cs

theorem below_drewN {B : Nat} {a w : World} (h : Below B a w) (n : Nat) : Below B a (w.drewN n) := ⟨h.os, h.tape, h.output, h.size, h.block⟩

theorem grown_then {a b c : World} {row : Option Nat} (h : a.grownBy b row) (k : b.grownBy c row) : a.grownBy c row :=
  ⟨k.os.trans h.os, k.tape.trans h.tape, k.output.trans h.output, Nat.le_trans h.size k.size, fun i hi hne => (k.block i (Nat.lt_of_lt_of_le hi h.size) hne).trans (h.block i hi hne)⟩
theorem grown_put (w : World) (g i : Nat) (u : Value) : w.grownBy (w.setCell ⟨g, i, none⟩ u) (some g) := ⟨rfl, rfl, rfl, by simp [World.setCell], fun q _ hne => Below.heap_setCell _ _ _ _ (fun e => hne (by rw [e]))⟩
theorem flat_len {α : Type} {f : α → List Value} {m : Nat} (hm : ∀ a, (f a).length = m) : ∀ xs : List α, (xs.flatMap f).length = xs.length * m
  | [] => by simp
  | a :: t => by rw [List.flatMap_cons, List.length_append, hm, flat_len hm t, List.length_cons, Nat.succ_mul]; omega
theorem grown_alloc (w : World) (o : Obj) (row : Option Nat) : w.grownBy (w.alloc o) row := ⟨rfl, rfl, rfl, by simp, fun k hk _ => Below.heap_alloc w o k hk⟩

def fL (l : L3) : List Value := [.int .i64 l.1, .int .i64 l.2.1, .int .i64 l.2.2]
theorem fL_len (l : L3) : (fL l).length = 3 := rfl
/-- A block of lines reads as a slice of them. -/
theorem IsBlk.row {w : World} {g : Nat} {t : TypeId} {ls : List L3} {n : Nat} (h : IsBlk w g t (rowArr fL ls)) (hn : ls.length = n) : RowL w (some ⟨g, 0, none⟩) n ls := by
  refine ⟨hn, fun _ => ⟨g, 0, rfl, h.lt, fun k l hk => ?_⟩⟩
  have e := rowArr_get (f := fL) fL_len hk
  rw [h.cell, h.cell, h.cell]
  simp only [Nat.zero_add]
  exact ⟨e 0 (by omega), e 1 (by omega), e 2 (by omega)⟩
end Go.Proofs.YtafgfhjlkdjngaaDoor

/- Plain words for states (no program): rows of truths and of numbers in memory, numbers of states, changes. -/
namespace Go.Proofs.YtafgfhjlkdjngaaDoor
open Go.RowKit

/-- A slice of n cells that reads as the values xs; it may be nil if it is empty. -/
def RowV (w : World) (A : Option Addr) (n : Nat) (xs : List Value) : Prop :=
  xs.length = n ∧ (0 < n → ∃ b off, A = some ⟨b, off, none⟩ ∧ b < w.heap.size ∧ ∀ k x, xs[k]? = some x → w.cell? ⟨b, off + k, none⟩ = some x)
section
variable {w w' : World} {A : Option Addr} {n : Nat} {xs : List Value}
theorem RowV.below (h : RowV w A n xs) (hb : Below w.heap.size w w') : RowV w' A n xs := by
  refine ⟨h.1, fun hn => ?_⟩
  obtain ⟨b, off, e, hlt, hc⟩ := h.2 hn
  exact ⟨b, off, e, Nat.lt_of_lt_of_le hlt hb.size, fun k x hk => (hb.cell (p := ⟨b, off + k, none⟩) hlt).trans (hc k x hk)⟩
theorem RowV.drew (h : RowV w A n xs) : RowV w.drew A n xs := h
theorem RowV.none_ {w : World} {A : Option Addr} : RowV w A 0 [] := ⟨rfl, fun h => absurd h (by omega)⟩
theorem RowV.grown (h : RowV w A n xs) {row : Option Nat} (hg : w.grownBy w' row) (hne : ∀ b off, A = some ⟨b, off, none⟩ → row ≠ some b) : RowV w' A n xs := by
  refine ⟨h.1, fun hn => ?_⟩
  obtain ⟨b, off, e, hlt, hc⟩ := h.2 hn
  exact ⟨b, off, e, Nat.lt_of_lt_of_le hlt hg.size, fun k x hk => (World.cell?_of_block (a := ⟨b, off + k, none⟩) (hg.block b hlt (fun e2 => hne b off e e2.symm))).trans (hc k x hk)⟩
end
/-- A slice of truths; a slice of numbers. -/
def RowT (w : World) (A : Option Addr) (n : Nat) (ts : List Bool) : Prop := RowV w A n (ts.map Value.bool)
def RowZ (w : World) (A : Option Addr) (n : Nat) (zs : List Int) : Prop := RowV w A n (zs.map (Value.int .i64))
section
variable {w w' : World} {A : Option Addr} {n : Nat} {ts : List Bool} {zs : List Int}
theorem RowT.len (h : RowT w A n ts) : ts.length = n := by have := h.1; simpa using this
theorem RowZ.len (h : RowZ w A n zs) : zs.length = n := by have := h.1; simpa using this
theorem RowT.below (h : RowT w A n ts) (hb : Below w.heap.size w w') : RowT w' A n ts := RowV.below h hb
theorem RowZ.below (h : RowZ w A n zs) (hb : Below w.heap.size w w') : RowZ w' A n zs := RowV.below h hb
theorem RowT.none_ {w : World} {A : Option Addr} : RowT w A 0 [] := RowV.none_
theorem RowZ.none_ {w : World} {A : Option Addr} : RowZ w A 0 [] := RowV.none_
theorem RowT.at_ (h : RowT w A n ts) {k : Nat} (hk : k < n) : ∃ b off t, A = some ⟨b, off, none⟩ ∧ b < w.heap.size ∧ ts[k]? = some t ∧ w.cell? ⟨b, off + k, none⟩ = some (.bool t) := by
  obtain ⟨b, off, e, hlt, hc⟩ := h.2 (by omega)
  have hl : k < ts.length := by have := h.len; omega
  exact ⟨b, off, ts[k], e, hlt, List.getElem?_eq_getElem hl, hc k _ (by rw [List.getElem?_map, List.getElem?_eq_getElem hl]; rfl)⟩
theorem RowZ.at_ (h : RowZ w A n zs) {k : Nat} (hk : k < n) : ∃ b off z, A = some ⟨b, off, none⟩ ∧ b < w.heap.size ∧ zs[k]? = some z ∧ w.cell? ⟨b, off + k, none⟩ = some (.int .i64 z) := by
  obtain ⟨b, off, e, hlt, hc⟩ := h.2 (by omega)
  have hl : k < zs.length := by have := h.len; omega
  exact ⟨b, off, zs[k], e, hlt, List.getElem?_eq_getElem hl, hc k _ (by rw [List.getElem?_map, List.getElem?_eq_getElem hl]; rfl)⟩
/-- A block that begins with truths reads as a slice of them. -/
theorem IsBlk.truths {w : World} {g : Nat} {t : TypeId} {cs : Array Value} (h : IsBlk w g t cs) (ht : cs.toList.take n = ts.map Value.bool) (hn : ts.length = n) : RowT w (some ⟨g, 0, none⟩) n ts := by
  refine ⟨by simpa using hn, fun hp => ⟨g, 0, rfl, h.lt, fun k x hk => ?_⟩⟩
  have hkn : k < n := by have := (List.getElem?_eq_some_iff.1 hk).1; simp at this; omega
  rw [h.cell, Nat.zero_add, ← Array.getElem?_toList]
  rw [← ht, List.getElem?_take_of_lt hkn] at hk
  exact hk
end

/-- A slice of truths of the call's own: empty, or the head of a block from base on. -/
def OwnT (w : World) (base : Nat) (v : Value) (ts : List Bool) : Prop :=
  (∃ A c, v = .slice A 0 c ∧ ts = []) ∨ (0 < ts.length ∧ ∃ g cap t cur, v = .slice (some ⟨g, 0, none⟩) ts.length cap ∧ base ≤ g ∧ IsBlk w g t cur ∧ ts.length ≤ cap ∧ ts.length ≤ cur.size ∧ cur.toList.take ts.length = ts.map Value.bool)
/-- The block that holds them, if there are any. -/
def tblk (v : Value) (ts : List Bool) : Option Nat := if ts.length = 0 then none else v.ownBlock
section
variable {w w' : World} {base : Nat} {v : Value} {ts : List Bool}
theorem OwnT.nil {w : World} {base : Nat} : OwnT w base (.slice none 0 0) [] := .inl ⟨none, 0, rfl, rfl⟩
theorem OwnT.mk {g n cap : Nat} {t : TypeId} {cur : Array Value} (hn : ts.length = n) (hb : base ≤ g) (hg : IsBlk w g t cur) (hc : n ≤ cap) (hs : n ≤ cur.size) (ht : cur.toList.take n = ts.map Value.bool) : OwnT w base (.slice (some ⟨g, 0, none⟩) n cap) ts := by
  subst hn
  rcases Nat.eq_zero_or_pos ts.length with h0 | h0
  · exact .inl ⟨_, cap, by rw [h0], List.eq_nil_of_length_eq_zero h0⟩
  · exact .inr ⟨h0, g, cap, t, cur, rfl, hb, hg, hc, hs, ht⟩
theorem OwnT.of_own {e : TypeId} {n : Nat} (h : w.ownsRow base e 1 v n (ts.map Value.bool)) : OwnT w base v ts := by
  have hl : ts.length = n := by have := h.1; simpa using this
  rcases h.2 with ⟨h1, h2⟩ | ⟨g, cap, cur, h1, h2, h3, h4, h5, h6, h7⟩
  · exact .inl ⟨none, 0, h1, List.eq_nil_of_length_eq_zero (by omega)⟩
  · subst hl; subst h1
    exact OwnT.mk (t := e) (cur := cur) rfl h2 h3 h4 (by omega) (by simpa using h7)
theorem OwnT.keep (h : OwnT w base v ts) (hb : Below w.heap.size w w') : OwnT w' base v ts := by
  rcases h with h | ⟨h0, g, cap, t, cur, h1, h2, h3, h4⟩
  · exact .inl h
  · exact .inr ⟨h0, g, cap, t, cur, h1, h2, h3.keep hb, h4⟩
theorem OwnT.alloc (h : OwnT w base v ts) (o : Obj) : OwnT (w.alloc o) base v ts := h.keep (below_bx w o)
theorem OwnT.drew (h : OwnT w base v ts) : OwnT w.drew base v ts := h
theorem OwnT.more {base' : Nat} (h : OwnT w base v ts) (hb : base' ≤ base) : OwnT w base' v ts := by
  rcases h with h | ⟨h0, g, cap, t, cur, h1, h2, h3, h4⟩
  · exact .inl h
  · exact .inr ⟨h0, g, cap, t, cur, h1, Nat.le_trans hb h2, h3, h4⟩
theorem OwnT.far {row : Option Nat} (h : OwnT w base v ts) (hg : w.grownBy w' row) (hne : ∀ q, tblk v ts = some q → row ≠ some q) : OwnT w' base v ts := by
  rcases h with h | ⟨h0, g, cap, t, cur, h1, h2, h3, h4⟩
  · exact .inl h
  · refine .inr ⟨h0, g, cap, t, cur, h1, h2, (hg.block g h3.lt (fun e => hne g ?_ e.symm)).trans h3, h4⟩
    rw [tblk, if_neg (by omega), h1]; rfl
theorem OwnT.lt (h : OwnT w base v ts) : ∀ q, tblk v ts = some q → base ≤ q ∧ q < w.heap.size := by
  intro q hq
  rcases h with ⟨A, c, _, h⟩ | ⟨h0, g, cap, t, cur, h1, h2, h3, h4⟩
  · subst h; cases hq
  · rw [tblk, if_neg (by omega), h1] at hq; injection hq with hq; subst hq; exact ⟨h2, h3.lt⟩
theorem OwnT.row (h : OwnT w base v ts) : ∃ A c, v = .slice A ts.length c ∧ ts.length ≤ c ∧ RowT w A ts.length ts := by
  rcases h with ⟨A, c, h1, rfl⟩ | ⟨h0, g, cap, t, cur, h1, h2, h3, h4, h5, h6⟩
  · exact ⟨A, c, h1, by simp, RowT.none_⟩
  · exact ⟨_, cap, h1, h4, h3.truths h6 rfl⟩
end

theorem IsBlk.farG {w w' : World} {g : Nat} {t : TypeId} {cs : Array Value} {row : Option Nat} (h : IsBlk w g t cs) (hg : w.grownBy w' row) (hne : row = some g → False) : IsBlk w' g t cs :=
  (hg.block g h.lt (fun e => hne e.symm)).trans h
theorem OwnT.rowT {w : World} {base n c : Nat} {A : Option Addr} {ts : List Bool} (h : OwnT w base (.slice A n c) ts) : RowT w A n ts := by
  obtain ⟨A', c', he, _, hr⟩ := h.row
  injection he with e1 e2 e3
  subst e1
  rw [e2]; exact hr
theorem OwnI.rowZ {w : World} {base n c : Nat} {e : TypeId} {A : Option Addr} {zs : List Int} (h : OwnI e w base (.slice A n c) zs) : RowZ w A n zs := by
  rcases h.2 with ⟨h1, h0⟩ | ⟨g, cap, cur, h1, hb, hg, hn, hc, hsz, ht⟩
  · injection h1 with e1 e2 e3
    subst e1 e2
    exact ⟨by simpa using h0, fun hp => absurd hp (by omega)⟩
  · injection h1 with e1 e2 e3
    subst e1 e2
    refine ⟨by simp, fun _ => ⟨g, 0, rfl, (Array.getElem?_eq_some_iff.1 hg).1, fun k x hk => ?_⟩⟩
    have hlt : k < zs.length := by have := (List.getElem?_eq_some_iff.1 hk).1; simpa using this
    rw [cell_of_row w g _ cur e (0, 0) hg, Nat.zero_add, ← Array.getElem?_toList]
    rw [← ht, List.getElem?_take_of_lt (by omega)] at hk
    exact hk

theorem OwnI.far {e : TypeId} {w w' : World} {base : Nat} {v : Value} {xs : List Int} {row : Option Nat} (h : OwnI e w base v xs) (hg : w.grownBy w' row) (hne : ∀ q, v.ownBlock = some q → row ≠ some q) : OwnI e w' base v xs := by
  refine World.ownsRow.kept h hg ?_
  rcases hq : v.ownBlock with _ | q
  · exact .inl rfl
  · exact .inr (fun e => hne q hq e.symm)
theorem OwnI.lt {e : TypeId} {w : World} {base : Nat} {v : Value} {xs : List Int} (h : OwnI e w base v xs) : ∀ q, v.ownBlock = some q → base ≤ q ∧ q < w.heap.size := fun q hq => World.ownsRow.lt h q hq
theorem OwnI.drewN {e : TypeId} {w : World} {base : Nat} {v : Value} {xs : List Int} (h : OwnI e w base v xs) (n : Nat) : OwnI e (w.drewN n) base v xs := h

/-! Numbers of states -/
def numF : List Bool → Int
  | [] => 0
  | t :: ts => 2 * numF ts + (if t = true then 1 else 0)
theorem numF_snoc (xs : List Bool) (t : Bool) : numF (xs ++ [t]) = numF xs + (if t = true then 2 ^ xs.length else 0) := by
  induction xs with
  | nil => simp [numF]
  | cons a xs ih =>
    rw [List.cons_append, numF, ih, numF, List.length_cons, Int.pow_succ]
    cases t <;> simp <;> omega
theorem numF_bd (ts : List Bool) : 0 ≤ numF ts ∧ numF ts < 2 ^ ts.length := by
  induction ts with
  | nil => simp [numF]
  | cons t ts ih =>
    rw [numF, List.length_cons, Int.pow_succ]
    cases t <;> simp <;> omega
def bitsF (m n : Nat) : List Bool := (List.range n).map fun k => decide (m / 2 ^ k % 2 = 1)
theorem bitsF_len (m n : Nat) : (bitsF m n).length = n := by simp [bitsF]
theorem bitsF_succ (m n : Nat) : bitsF m (n + 1) = bitsF m n ++ [decide (m / 2 ^ n % 2 = 1)] := by rw [bitsF, List.range_succ, List.map_append]; rfl
theorem bitsF_cons (m n : Nat) : bitsF m (n + 1) = decide (m % 2 = 1) :: bitsF (m / 2) n := by
  induction n with
  | zero => simp [bitsF]
  | succ n ih =>
    rw [bitsF_succ, ih, bitsF_succ, List.cons_append, Nat.div_div_eq_div_mul, Nat.pow_succ', ]
theorem numF_bitsF (m n : Nat) : numF (bitsF m n) = ((m % 2 ^ n : Nat) : Int) := by
  induction n generalizing m with
  | zero => simp [bitsF, numF, Nat.mod_one]
  | succ n ih =>
    rw [bitsF_cons, numF, ih, Nat.pow_succ', Nat.mod_mul]
    by_cases h : m % 2 = 1
    · simp [h]; omega
    · have : m % 2 = 0 := by omega
      simp [this]
theorem bitsF_numF (ts : List Bool) : bitsF (numF ts).toNat ts.length = ts := by
  induction ts with
  | nil => rfl
  | cons t ts ih =>
    have hb := numF_bd ts
    rw [List.length_cons, bitsF_cons]
    have e : (numF (t :: ts)).toNat / 2 = (numF ts).toNat := by rw [numF]; cases t <;> simp <;> omega
    have e2 : decide ((numF (t :: ts)).toNat % 2 = 1) = t := by rw [numF]; cases t <;> simp <;> omega
    rw [e, e2, ih]
def stNumF (ts : List Bool) : Int := if ts.length ≤ 10 then numF ts else -1
def stOfB (m l : Int) : Bool := decide (0 ≤ l) && decide (l ≤ 10) && decide (0 ≤ m) && decide (m < 2 ^ l.toNat)
def stOfF (m l : Int) : List Bool := if stOfB m l = true then bitsF m.toNat l.toNat else []

theorem stOfF_len (m l : Int) : (stOfF m l).length ≤ 10 := by
  rw [stOfF]; split
  · rename_i h
    simp only [stOfB, Bool.and_eq_true, decide_eq_true_eq] at h
    rw [bitsF_len]; omega
  · simp

/-! Changes -/
def chTo (a b : List Bool) (k : Nat) : List Int := ((List.range k).filter fun j => a.getD j false != b.getD j false).map Int.ofNat
def chF (a b : List Bool) : List Int := if a.length = b.length then chTo a b a.length else []
theorem chTo_len (a b : List Bool) (k : Nat) : (chTo a b k).length ≤ k := by
  rw [chTo, List.length_map]; exact Nat.le_trans (List.length_filter_le _ _) (by simp)
theorem chF_len (a b : List Bool) : (chF a b).length ≤ a.length := by
  rw [chF]; split
  · exact chTo_len _ _ _
  · simp
theorem chTo_yes {a b : List Bool} {k : Nat} {x y : Bool} (ha : a[k]? = some x) (hb : b[k]? = some y) (h : (x == y) = false) : chTo a b (k + 1) = chTo a b k ++ [(k : Int)] := by
  have e1 : a.getD k false = x := by rw [List.getD_eq_getElem?_getD, ha]; rfl
  have e2 : b.getD k false = y := by rw [List.getD_eq_getElem?_getD, hb]; rfl
  have : (a.getD k false != b.getD k false) = true := by rw [e1, e2]; simp [bne, h]
  rw [chTo, List.range_succ, List.filter_append, List.map_append, List.filter_cons, this]; rfl
theorem chTo_no {a b : List Bool} {k : Nat} {x y : Bool} (ha : a[k]? = some x) (hb : b[k]? = some y) (h : x = y) : chTo a b (k + 1) = chTo a b k := by
  have e1 : a.getD k false = x := by rw [List.getD_eq_getElem?_getD, ha]; rfl
  have e2 : b.getD k false = y := by rw [List.getD_eq_getElem?_getD, hb]; rfl
  have : (a.getD k false != b.getD k false) = false := by rw [e1, e2, h]; simp
  rw [chTo, List.range_succ, List.filter_append, List.map_append, List.filter_cons, this]; simp [chTo]

def flipAt (ts : List Bool) (l : Int) : List Bool := ts.set l.toNat (!ts.getD l.toNat false)
def chAll : List Bool → List Int → Option (List Bool)
  | ts, [] => some ts
  | ts, l :: ls => if 0 ≤ l ∧ l < ts.length then chAll (flipAt ts l) ls else none
theorem flipAt_len (ts : List Bool) (l : Int) : (flipAt ts l).length = ts.length := by simp [flipAt]
theorem chAll_len {ls : List Int} : ∀ {ts us : List Bool}, chAll ts ls = some us → us.length = ts.length := by
  induction ls with
  | nil => intro ts us h; injection h with h; rw [h]
  | cons l ls ih =>
    intro ts us h
    rw [chAll] at h
    split at h
    · rw [ih h, flipAt_len]
    · cases h
theorem chAll_snoc (ls : List Int) (l : Int) : ∀ ts : List Bool, chAll ts (ls ++ [l]) = (chAll ts ls).bind fun us => if 0 ≤ l ∧ l < us.length then some (flipAt us l) else none := by
  induction ls with
  | nil => intro ts; simp [chAll]
  | cons x ls ih =>
    intro ts
    rw [List.cons_append, chAll, chAll]
    split
    · exact ih _
    · rfl
theorem chAll_app (xs ys : List Int) : ∀ ts : List Bool, chAll ts (xs ++ ys) = (chAll ts xs).bind fun us => chAll us ys := by
  induction xs with
  | nil => intro ts; rfl
  | cons x xs ih =>
    intro ts
    rw [List.cons_append, chAll, chAll]
    split
    · exact ih _
    · rfl
theorem chAll_stop {ts us : List Bool} {ls : List Int} {k : Nat} {l : Int} (hk : ls[k]? = some l) (h : chAll ts (ls.take k) = some us) (hl : ¬ (0 ≤ l ∧ l < us.length)) : chAll ts ls = none := by
  have e : ls = ls.take k ++ l :: ls.drop (k + 1) := by
    obtain ⟨hlt, he⟩ := List.getElem?_eq_some_iff.1 hk
    rw [← he, List.getElem_cons_drop, List.take_append_drop]
  rw [e, chAll_app, h]
  show chAll us (l :: _) = none
  rw [chAll, if_neg hl]
theorem chAll_step {ts us : List Bool} {ls : List Int} {k : Nat} {l : Int} (hk : ls[k]? = some l) (h : chAll ts (ls.take k) = some us) (hl : 0 ≤ l ∧ l < us.length) : chAll ts (ls.take (k + 1)) = some (flipAt us l) := by
  rw [List.take_add_one, hk, Option.toList_some, chAll_snoc, h]
  simp [hl]
end Go.Proofs.YtafgfhjlkdjngaaDoor

/- Rows of the struct Bus in memory, no program (written by program). -/
namespace Go.Proofs.YtafgfhjlkdjngaaDoor
open Go.RowKit

abbrev TU := Int × Int
def fU (u : TU) : List Value := [.int .i64 u.1, .int .i64 u.2]
theorem fU_len (u : TU) : (fU u).length = 2 := rfl
/-- They lie at block b from off on. -/
def AtU (w : World) (b off : Nat) (us : List TU) : Prop := ∀ k u, us[k]? = some u → w.cell? ⟨b, off + k * 2, none⟩ = some (.int .i64 u.1) ∧ w.cell? ⟨b, off + k * 2 + 1, none⟩ = some (.int .i64 u.2)
/-- A slice of n of them reads as us; it may be nil if it is empty. -/
def RowU (w : World) (A : Option Addr) (n : Nat) (us : List TU) : Prop := us.length = n ∧ (0 < n → ∃ b off, A = some ⟨b, off, none⟩ ∧ b < w.heap.size ∧ AtU w b off us)
section
variable {w w' : World} {A : Option Addr} {n : Nat} {us : List TU}
theorem RowU.len (h : RowU w A n us) : us.length = n := h.1
theorem RowU.below (h : RowU w A n us) (hb : Below w.heap.size w w') : RowU w' A n us := by
  refine ⟨h.1, fun hn => ?_⟩
  obtain ⟨b, off, e, hlt, hc⟩ := h.2 hn
  refine ⟨b, off, e, Nat.lt_of_lt_of_le hlt hb.size, fun k l hk => ?_⟩
  obtain ⟨h0, h1⟩ := hc k l hk
  exact ⟨(hb.cell (p := ⟨b, off + k * 2, none⟩) hlt).trans h0, (hb.cell (p := ⟨b, off + k * 2 + 1, none⟩) hlt).trans h1⟩
theorem RowU.none_ {w : World} {A : Option Addr} : RowU w A 0 [] := ⟨rfl, fun h => absurd h (by omega)⟩
theorem RowU.at_ (h : RowU w A n us) {k : Nat} (hk : k < n) : ∃ b off u, A = some ⟨b, off, none⟩ ∧ b < w.heap.size ∧ us[k]? = some u ∧ w.cell? ⟨b, off + k * 2, none⟩ = some (.int .i64 u.1) ∧ w.cell? ⟨b, off + k * 2 + 1, none⟩ = some (.int .i64 u.2) := by
  obtain ⟨b, off, e, hlt, hc⟩ := h.2 (by omega)
  have hl : us[k]? = some (us[k]'(by have := h.1; omega)) := List.getElem?_eq_getElem _
  exact ⟨b, off, _, e, hlt, hl, hc k _ hl⟩
theorem RowU.grown {row : Option Nat} (h : RowU w A n us) (hg : w.grownBy w' row) (hne : ∀ b off, A = some ⟨b, off, none⟩ → row ≠ some b) : RowU w' A n us := by
  refine ⟨h.1, fun hn => ?_⟩
  obtain ⟨b, off, e, hlt, hc⟩ := h.2 hn
  refine ⟨b, off, e, Nat.lt_of_lt_of_le hlt hg.size, fun k l hk => ?_⟩
  obtain ⟨h0, h1⟩ := hc k l hk
  have hb := hg.block b hlt (fun e2 => hne b off e e2.symm)
  exact ⟨(World.cell?_of_block (a := ⟨b, off + k * 2, none⟩) hb).trans h0, (World.cell?_of_block (a := ⟨b, off + k * 2 + 1, none⟩) hb).trans h1⟩
end
/-- A block of them reads as a slice. -/
theorem IsBlk.rowU {w : World} {g : Nat} {t : TypeId} {us : List TU} {n : Nat} (h : IsBlk w g t (rowArr fU us)) (hn : us.length = n) : RowU w (some ⟨g, 0, none⟩) n us := by
  refine ⟨hn, fun _ => ⟨g, 0, rfl, h.lt, fun k l hk => ?_⟩⟩
  have e := rowArr_get (f := fU) fU_len hk
  rw [h.cell, h.cell]
  simp only [Nat.zero_add]
  exact ⟨e 0 (by omega), e 1 (by omega)⟩
end Go.Proofs.YtafgfhjlkdjngaaDoor
