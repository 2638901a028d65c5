/- Bays, of the program: the memory of deedsLeft. -/
import Derived.Test.YtapbmpodimdkpaaDoorBayA
namespace Go.Proofs.YtapbmpodimdkpaaDoor
open Go.ChangeShapes Go.WideShapes Go.ChangeAt Go.RowKit Go.Shelf

theorem allBays_stops (n : Nat) (hn : 1 ≤ n) (w : World) :
    SeqStopsK Fence.wide n Tryd.prog 55 #[] (fun x : B4 => #[vB x]) (fun _ _ => True) (fun ys => ys = baysTo 16) (fun _ => True) 16 w := by
  intro l J Jx W hW hJ hJx hY h0
  refine (allBays_in n hn l W.heap.size J Jx hJ (fun pre x W1 hj hl => ?_) W h0).mono fun e W' h => ⟨h.1, h.2.imp (fun h => ⟨_, rfl, h⟩) fun ⟨pre, h⟩ => ⟨pre, trivial, h⟩⟩
  obtain ⟨fn, tmps, assign, body, hy, hR⟩ := hY pre x W1 hj hl
  exact ⟨fn, tmps, assign, body, hy, hR.mono fun e W' h => h.imp (fun h => ⟨h.1, h.2.1⟩) id⟩

theorem MapSt.ne {w : World} {B c g : Nat} {M : B4 → Option Nat} {t : TypeId} {cs : Array Value} (h : MapSt w B M c) (k : IsBlk w g t cs) : B ≠ g := fun e => by
  obtain ⟨D, ⟨es, clock, hb, _⟩, _⟩ := h
  have hk : w.heap[g]? = some (.cells cs t (0, 0)) := k
  rw [← e, hb] at hk
  cases hk
theorem MapSt.no_mark {w : World} {B c r : Nat} {M : B4 → Option Nat} {x : Option (List Deferred)} (h : MapSt w B M c) (k : w.heap[r]? = some (.deferred x)) : B ≠ r := fun e => by
  obtain ⟨D, ⟨es, clock, hb, _⟩, _⟩ := h
  rw [← e, hb] at k
  cases k
def mark (r : Nat) : Deferred := { target := .collected r, args := #[] }

/-- The memory while the bays are found: the box of the bay, the map's and the counter's variables, the map, the marks of the loops that are over. -/
structure LeftSt (w wr : World) (t : B4) (g3 g5 B n : Nat) (M : B4 → Option Nat) (c : Nat) (rs : List Nat) : Prop where
  bel : Below w.heap.size w wr
  box : IsBlk wr w.heap.size 24 #[.bool t.1, .bool t.2.1, .bool t.2.2.1, .bool t.2.2.2]
  var : IsBlk wr g3 73 #[.map (some B)]
  far : IsBlk wr g5 3 #[.int .i64 (n : Int)]
  map : MapSt wr B M c
  lB : w.heap.size ≤ B
  l3 : w.heap.size < g3
  l5 : w.heap.size < g5
  n35 : g3 ≠ g5
  marks : ∀ r ∈ rs, wr.heap[r]? = some (.deferred (some [])) ∧ w.heap.size ≤ r
  nd : rs.Nodup
section
variable {w wr w' : World} {t : B4} {g3 g5 g5' B n c c' : Nat} {M M' : B4 → Option Nat} {rs : List Nat}
theorem LeftSt.next (h : LeftSt w wr t g3 g5 B n M c rs) (hb : Below wr.heap.size wr w') : LeftSt w w' t g3 g5 B n M c rs :=
  ⟨h.bel.trans (hb.mono h.bel.size), h.box.keep hb, h.var.keep hb, h.far.keep hb, h.map.keep hb, h.lB, h.l3, h.l5, h.n35, fun r hr => ⟨(hb.block r (Array.getElem?_eq_some_iff.1 (h.marks r hr).1).1).trans (h.marks r hr).1, (h.marks r hr).2⟩, h.nd⟩
theorem LeftSt.grown {S : Nat} {row : Option Nat} (h : LeftSt w wr t g3 g5 B n M c rs) (hB : B < S) (hrs : ∀ r ∈ rs, r < S) (hw : w.heap.size ≤ S) (hg : wr.grownBy w' row) (hrow : ∀ r, row = some r → S ≤ r ∧ ∃ o : Obj, wr.heap[r]? = some o ∧ o.isCells = false) : LeftSt w w' t g3 g5 B n M c rs := by
  have hc : ∀ {g t cs}, IsBlk wr g t cs → row = some g → False := fun {g t cs} k e => by
    obtain ⟨_, o, ho, hf⟩ := hrow g e
    have hk : wr.heap[g]? = some (.cells cs t (0, 0)) := k
    rw [hk] at ho; injection ho with ho; subst ho; cases hf
  refine ⟨h.bel.grown hg h.bel.size (fun q hq => ?_), h.box.farG hg (hc h.box), h.var.farG hg (hc h.var), h.far.farG hg (hc h.far), h.map.kept hg (fun e => ?_), h.lB, h.l3, h.l5, h.n35, fun r hr => ⟨?_, (h.marks r hr).2⟩, h.nd⟩
  · have := (hrow q hq).1; omega
  · have := (hrow B e.symm).1; omega
  · have h1 := (h.marks r hr).1
    have h2 := hrs r hr
    exact (hg.block r (Array.getElem?_eq_some_iff.1 h1).1 (fun e => by have := (hrow r e.symm).1; omega)).trans h1
theorem LeftSt.store (h : LeftSt w wr t g3 g5 B n M c rs) (hm : MapSt w' B M' c') (hg : wr.grownBy w' (some B)) : LeftSt w w' t g3 g5 B n M' c' rs :=
  ⟨h.bel.grown hg h.bel.size (fun q hq => by injection hq with hq; have := h.lB; omega), h.box.farG hg (fun e => by injection e with e; exact h.map.ne h.box e), h.var.farG hg (fun e => by injection e with e; exact h.map.ne h.var e),
    h.far.farG hg (fun e => by injection e with e; exact h.map.ne h.far e), hm, h.lB, h.l3, h.l5, h.n35,
    fun r hr => ⟨(hg.block r (Array.getElem?_eq_some_iff.1 (h.marks r hr).1).1 (fun e => by injection e with e; exact h.map.no_mark (h.marks r hr).1 e.symm)).trans (h.marks r hr).1, (h.marks r hr).2⟩, h.nd⟩
/-- A new variable of the counter. -/
theorem LeftSt.fresh (h : LeftSt w wr t g3 g5 B n M c rs) (m : Nat) (e : wr.heap.size = g5') : LeftSt w (wr.alloc (.cells #[.int .i64 (m : Int)] 3)) t g3 g5' B m M c rs := by
  subst e
  have h1 := h.next (below_bx wr (.cells #[.int .i64 (m : Int)] 3))
  have h2 := h.bel.size
  have h3 := h.var.lt
  exact ⟨h1.bel, h1.box, h1.var, IsBlk.new wr _ _, h1.map, h.lB, h.l3, Nat.lt_of_lt_of_le h.box.lt (Nat.le_refl _), by omega, h1.marks, h.nd⟩
theorem LeftSt.done {R : Ending → World → Prop} {F : Fence} {nF : Nat} {fn : Func} {tmps : Array Value} (hfin : ∀ w', MapSt w' B M c → Below w.heap.size w w' → LeavesInM F nF Tryd.prog fn tmps R [] .returning w') :
    ∀ (rs : List Nat) (wr : World), MapSt wr B M c → Below w.heap.size w wr → (∀ r ∈ rs, wr.heap[r]? = some (.deferred (some [])) ∧ w.heap.size ≤ r) → rs.Nodup → LeavesInM F nF Tryd.prog fn tmps R (rs.map mark) .returning wr
  | [], wr, hm, hb, _, _ => hfin wr hm hb
  | r :: rs, wr, hm, hb, hr, hnd => by
    obtain ⟨h1, h2⟩ := hr r (List.mem_cons_self ..)
    obtain ⟨n1, n2⟩ := List.nodup_cons.1 hnd
    have hg := grownBy_putObj' wr r (.deferred none)
    refine ⟨by simp, .inl ⟨r, _, rfl, run_takeDeferred h1, ?_⟩⟩
    refine LeftSt.done hfin rs _ (hm.kept hg (fun e => by injection e with e; exact hm.no_mark h1 e)) (hb.grown hg hb.size (fun q hq => by injection hq with hq; omega)) (fun r' hr' => ?_) n2
    obtain ⟨h3, h4⟩ := hr r' (List.mem_cons_of_mem _ hr')
    have hne : r' ≠ r := fun e => n1 (e ▸ hr')
    exact ⟨(hg.block r' (Array.getElem?_eq_some_iff.1 h3).1 (fun e => by injection e with e; exact hne e)).trans h3, h4⟩
end
end Go.Proofs.YtapbmpodimdkpaaDoor
