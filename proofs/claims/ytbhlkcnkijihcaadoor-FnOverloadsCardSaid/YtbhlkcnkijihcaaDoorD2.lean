/- The drawing of a network: whatever the bytes, it is some network, in new memory. -/
import Derived.Test.YtbhlkcnkijihcaaDoorD1
import Derived.Maps.AppendAt
import Derived.OwnWalk
import Derived.Deep.RegionWith
import Derived.Deep.LoopGhost
import Derived.Deep.AppendLies
import Derived.Deep.RegionLaw
import Derived.Deep.CutBlock
namespace Go.Proofs.YtbhlkcnkijihcaaDoor
open Go.ChangeShapes Go.WideShapes Go.ChangeAt Go.RowKit

/-- A slice of lines of the call's own. -/
def OwnL (w : World) (base : Nat) (v : Value) (ls : List L3) : Prop := w.ownsRow base 50 3 v ls.length (ls.flatMap fL)
theorem OwnL.keep {w w' : World} {base : Nat} {v : Value} {xs : List L3} (h : OwnL w base v xs) (hb : Below w.heap.size w w') : OwnL w' base v xs :=
  World.ownsRow.kept (row := none) h ⟨hb.os, hb.tape, hb.output, hb.size, fun i hi _ => hb.block i hi⟩ (Classical.em _)
theorem OwnL.far {w w' : World} {base : Nat} {v : Value} {xs : List L3} {row : Option Nat} (h : OwnL w base v xs) (hg : w.grownBy w' row) (hne : ∀ q, v.ownBlock = some q → row ≠ some q) : OwnL w' base v xs := by
  refine World.ownsRow.kept h hg ?_
  rcases hq : v.ownBlock with _ | q
  · exact .inl rfl
  · exact .inr (fun e => hne q hq e.symm)
theorem OwnL.row {w : World} {base : Nat} {v : Value} {ls : List L3} (h : OwnL w base v ls) : ∃ A c, v = .slice A ls.length c ∧ RowL w A ls.length ls := by
  rcases h.2 with ⟨rfl, h0⟩ | ⟨g, cap, cur, rfl, hb, hg, hn, hc, hsz, ht⟩
  · exact ⟨none, 0, by rw [h0], rfl, fun hp => absurd hp (by omega)⟩
  · refine ⟨some ⟨g, 0, none⟩, cap, rfl, rfl, fun _ => ⟨g, 0, rfl, (Array.getElem?_eq_some_iff.1 hg).1, fun k l hk => ?_⟩⟩
    have hlt : k < ls.length := (List.getElem?_eq_some_iff.1 hk).1
    have one : ∀ j, j < 3 → w.cell? ⟨g, 0 + k * 3 + j, none⟩ = (fL l)[j]? := by
      intro j hj
      rw [cell_of_row w g _ cur 50 (0, 0) hg, Nat.zero_add, ← Array.getElem?_toList]
      have e := flat_get (f := fL) fL_len ls k l j hk hj
      rw [← ht, List.getElem?_take_of_lt (by omega)] at e
      exact e
    exact ⟨one 0 (by omega), one 1 (by omega), one 2 (by omega)⟩

/-- While a network is drawn: the result's block, the variable's block, its lines, the reader. -/
structure NetSt (w0 w : World) (R X : Nat) (lim : Int) (bs : Int) (v : Value) (ls : List L3) : Prop where
  ret : IsBlk w w0.heap.size 25 #[.int .i64 0, .slice none 0 0]
  far : w0.heap.size < X
  var : IsBlk w X 25 #[.int .i64 bs, v]
  own : OwnL w (X + 1) v ls
  rd : Rd w R lim
  grown : w0.grownBy w (some R)
section
variable {w0 w w' : World} {R X : Nat} {lim lim' : Int} {bs : Int} {v : Value} {ls : List L3}
theorem NetSt.pick (hR : R < w0.heap.size) (h : NetSt w0 w R X lim bs v ls) (hr : Rd w' R lim') (hg : w.grownBy w' (some R)) : NetSt w0 w' R X lim' bs v ls := by
  have hf := h.far
  exact ⟨(hg.block _ h.ret.lt (by simp; omega)).trans h.ret, h.far, (hg.block _ h.var.lt (by simp; omega)).trans h.var,
    h.own.far hg (fun q hq e => by injection e with e; have := (World.ownsRow.lt h.own q hq).1; omega), hr, grown_then h.grown hg⟩
theorem NetSt.keep (h : NetSt w0 w R X lim bs v ls) (hb : Below w.heap.size w w') : NetSt w0 w' R X lim bs v ls :=
  ⟨h.ret.keep hb, h.far, h.var.keep hb, h.own.keep hb, h.rd.keep hb, grown_then h.grown ⟨hb.os, hb.tape, hb.output, hb.size, fun k hk _ => hb.block k hk⟩⟩
theorem NetSt.drew (h : NetSt w0 w R X lim bs v ls) : NetSt w0 w.drew R X lim bs v ls := ⟨h.ret, h.far, h.var, h.own, h.rd, h.grown.os, h.grown.tape, h.grown.output, h.grown.size, h.grown.block⟩
theorem NetSt.mono (h : NetSt w0 w R X lim bs v ls) (hl : lim ≤ lim') : NetSt w0 w R X lim' bs v ls := ⟨h.ret, h.far, h.var, h.own, h.rd.mono hl, h.grown⟩
/-- A line is appended. -/
theorem NetSt.push (hR : R < w0.heap.size) (h : NetSt w0 w R X lim bs v ls) (o : Obj) {w8 : World} {v' : Value} {l : L3} (hown : w8.ownsRow (X + 1) 50 3 v' (ls.length + 1) (ls.flatMap fL ++ fL l)) (hg : (w.alloc o).grownBy w8 v.ownBlock) :
    NetSt w0 (w8.setCell ⟨X, 1, none⟩ v') R X lim bs v' (ls ++ [l]) ∧ IsBlk w8 X 25 #[.int .i64 bs, v] := by
  have hf := h.far
  have hq : ∀ q, v.ownBlock = some q → X + 1 ≤ q := fun q e => (World.ownsRow.lt h.own q e).1
  have hx : X < w.heap.size := h.var.lt
  have hr : w0.heap.size < w.heap.size := h.ret.lt
  have keep : ∀ k, k < w.heap.size → k ≤ X → w8.heap[k]? = w.heap[k]? := fun k hk hkX => (hg.block k (by simp; omega) (fun e => by have := hq k e.symm; omega)).trans (Below.heap_alloc w o k hk)
  have var8 : IsBlk w8 X 25 #[.int .i64 bs, v] := (keep X hx (Nat.le_refl _)).trans h.var
  have hgp : w8.grownBy (w8.setCell ⟨X, 1, none⟩ v') (some X) := grown_put _ _ _ _
  have own8 : OwnL w8 (X + 1) v' (ls ++ [l]) := by
    show World.ownsRow _ _ _ _ _ (ls ++ [l]).length _
    rw [List.length_append, List.flatMap_append, List.flatMap_singleton]; exact hown
  refine ⟨⟨IsBlk.far ((keep _ hr (by omega)).trans h.ret) (by simp; omega) _, hf, var8.put 1 _, own8.far hgp (fun q e e2 => by injection e2 with e2; have := (World.ownsRow.lt own8 q e).1; omega), ((h.rd.alloc o).grown hg (fun q e => by have := hq q e; omega)).far (by omega) hgp, ?_⟩, var8⟩
  have hsz : w.heap.size ≤ w8.heap.size := by have := hg.size; simp at this; omega
  refine ⟨hgp.os.trans (hg.os.trans h.grown.os), hgp.tape.trans (hg.tape.trans h.grown.tape), hgp.output.trans (hg.output.trans h.grown.output), Nat.le_trans h.grown.size (Nat.le_trans hsz hgp.size), fun k hk hne => ?_⟩
  have := h.grown.size
  exact (hgp.block k (by omega) (by simp; omega)).trans ((keep k (by omega) (by omega)).trans (h.grown.block k hk hne))
/-- Fresh lines are stored. -/
theorem NetSt.fresh (hR : R < w0.heap.size) (h : NetSt w0 w R X lim bs v ls) (ls' : List L3) (hm : ls'.length ≤ maxLen) (n : Nat) (hn : ls'.length = n) :
    NetSt w0 ((w.alloc (.cells (rowArr fL ls') 50)).setCell ⟨X, 1, none⟩ (.slice (some ⟨w.heap.size, 0, none⟩) n n)) R X lim bs (.slice (some ⟨w.heap.size, 0, none⟩) n n) ls' := by
  subst hn
  have hf := h.far
  have hx : X < w.heap.size := h.var.lt
  have k := h.keep (below_bx w (.cells (rowArr fL ls') 50))
  have hgp : (w.alloc (.cells (rowArr fL ls') 50)).grownBy ((w.alloc (.cells (rowArr fL ls') 50)).setCell ⟨X, 1, none⟩ (.slice (some ⟨w.heap.size, 0, none⟩) ls'.length ls'.length)) (some X) := grown_put _ _ _ _
  have own8 : OwnL (w.alloc (.cells (rowArr fL ls') 50)) (X + 1) (.slice (some ⟨w.heap.size, 0, none⟩) ls'.length ls'.length) ls' := by
    have hs : (rowArr fL ls').size = ls'.length * 3 := by rw [rowArr, List.size_toArray, flat_len fL_len]
    have := World.ownsRow_lit (base := X + 1) (size := 3) (e := 50) w (rowArr fL ls') ls'.length (by omega) hm hs
    exact this
  refine ⟨IsBlk.far k.ret (by simp; omega) _, hf, k.var.put 1 _, own8.far hgp (fun q e e2 => by injection e2 with e2; have := (World.ownsRow.lt own8 q e).1; omega), k.rd.far (by omega) hgp, ?_⟩
  have := k.grown.size
  exact ⟨hgp.os.trans k.grown.os, hgp.tape.trans k.grown.tape, hgp.output.trans k.grown.output, Nat.le_trans k.grown.size hgp.size, fun q hk hne => (hgp.block q (by omega) (by simp; omega)).trans (k.grown.block q hk hne)⟩
/-- A store into the variable. -/
theorem NetSt.store (hR : R < w0.heap.size) (h : NetSt w0 w R X lim bs v ls) (b' : Int) : NetSt w0 (w.setCell ⟨X, 0, none⟩ (.int .i64 b')) R X lim b' v ls := by
  have hf := h.far
  have hx : X < w.heap.size := h.var.lt
  have hg : w.grownBy (w.setCell ⟨X, 0, none⟩ (.int .i64 b')) (some X) := grown_put _ _ _ _
  refine ⟨h.ret.far (by simp; omega) _, h.far, h.var.put 0 _, h.own.far hg (fun q hq e => by injection e with e; have := (World.ownsRow.lt h.own q hq).1; omega), h.rd.far (by omega) hg, ?_⟩
  · exact ⟨hg.os.trans h.grown.os, hg.tape.trans h.grown.tape, hg.output.trans h.grown.output, Nat.le_trans h.grown.size hg.size, fun k hk hne => (hg.block k (by have := h.grown.size; omega) (by simp; omega)).trans (h.grown.block k hk hne)⟩
end

theorem news_new (w : World) (l : L3) (t : TypeId) : ∀ j u, (fL l)[j]? = some u → (w.alloc (.cells (fL l).toArray t)).cell? ((⟨w.heap.size, 0, none⟩ : Addr).add j) = some u := by
  intro j u hj
  have h := (IsBlk.new w t (fL l).toArray).cell j
  have ha : (⟨w.heap.size, 0, none⟩ : Addr).add j = ⟨w.heap.size, j, none⟩ := by unfold Addr.add; split <;> simp_all
  rw [ha, h, ← hj]; simp
theorem news_at (_n : Nat) (w : World) {o : Obj} (l : L3) (t : TypeId) : ∀ j u, (fL l)[j]? = some u → ((w.alloc o).alloc (.cells (fL l).toArray t)).cell? ((⟨w.heap.size + 1, 0, none⟩ : Addr).add j) = some u := by
  have h := news_new (w.alloc o) l t
  simp only [World.size_alloc] at h
  exact h
theorem two_at {w : World} {g : Nat} {t : TypeId} {x y : Int} (h : w.heap[g]? = some (.cells #[.int .i64 x, .int .i64 y] t (0, 0))) {j : Int} (h0 : 0 ≤ j) (h1 : j < 2) : ∃ z, w.cell? ⟨g, j.toNat, none⟩ = some (.int .i64 z) := by
  rcases (show j = 0 ∨ j = 1 by omega) with rfl | rfl
  · exact ⟨x, IsBlk.cell h 0⟩
  · exact ⟨y, IsBlk.cell h 1⟩
theorem lineInfo : (Tryd.prog.info? 50).map (fun i => (i.zero, i.size, i.bytes)) = some (some (.agg #[.int .i64 0, .int .i64 0, .int .i64 0]), 3, 24) := by kernel_rfl
def lines11 : Array Value := rowArr fL (List.replicate 11 (0, 0, 0))
theorem make11 (w : World) : (Instr.makeSlice 23 (.int .i64 11) (.int .i64 11)).run Tryd.prog w = .ok (.slice (some ⟨w.heap.size, 0, none⟩) 11 11) (w.alloc (.cells lines11 50)) := by
  obtain ⟨i0, hi, hz0, hz1, hz2⟩ := info_parts lineInfo
  have := run_make (P := Tryd.prog) w 23 50 i0 _ Tryd.underlying23 hi hz0 .i64 .i64 11 11 (by omega) (by omega) (by rw [hz2]; omega) (by omega)
  rw [this]
  show Result.ok _ (w.alloc (.cells (madeCells (Value.agg #[.int .i64 0, .int .i64 0, .int .i64 0]).cells (11 * i0.size)) _)) = _
  rw [hz1, madeCells_row (f := fL) fL_len (Value.agg #[.int .i64 0, .int .i64 0, .int .i64 0]).cells (0, 0, 0) rfl (by omega)]
  rfl
theorem other_bus {bs va vc : Int} (h1 : 2 ≤ bs) (h2 : bs ≤ 8) (_h3 : 0 ≤ va) (h4 : va < bs) (h5 : 0 ≤ vc) (h6 : vc < bs - 1) :
    0 ≤ (va + 1 + vc) % bs ∧ (va + 1 + vc) % bs < bs ∧ (va != (va + 1 + vc) % bs) = true := by
  refine ⟨Int.emod_nonneg _ (by omega), Int.emod_lt_of_pos _ (by omega), ?_⟩
  rw [bne_iff_ne]
  rcases (show bs = 2 ∨ bs = 3 ∨ bs = 4 ∨ bs = 5 ∨ bs = 6 ∨ bs = 7 ∨ bs = 8 by omega) with rfl | rfl | rfl | rfl | rfl | rfl | rfl <;> omega
theorem lineOk_mk {bs a b m : Int} (h0 : 0 ≤ a) (h1 : a < bs) (h2 : 0 ≤ b) (h3 : b < bs) (h4 : (a != b) = true) (h5 : 1 ≤ m) (h6 : m ≤ 999) : lineOk bs (a, b, m) = true := by
  simp only [lineOk, inB, Bool.and_eq_true, decide_eq_true_eq]
  exact ⟨⟨⟨⟨h0, by omega⟩, ⟨h2, by omega⟩⟩, h4⟩, ⟨h5, h6⟩⟩
theorem all_snoc {bs : Int} {ls : List L3} {l : L3} (h : ls.all (lineOk bs) = true) (hl : lineOk bs l = true) : (ls ++ [l]).all (lineOk bs) = true := by
  rw [List.all_append, h, List.all_cons, hl]; rfl
theorem netOk_mk {bs : Int} {ls : List L3} (h1 : 1 ≤ bs) (h2 : bs ≤ 8) (h3 : ls.length ≤ 10) (h : ls.all (lineOk bs) = true) : netOk bs ls = true := by
  simp only [netOk, inB, Bool.and_eq_true, decide_eq_true_eq]; exact ⟨⟨⟨h1, h2⟩, h3⟩, h⟩
end Go.Proofs.YtbhlkcnkijihcaaDoor
