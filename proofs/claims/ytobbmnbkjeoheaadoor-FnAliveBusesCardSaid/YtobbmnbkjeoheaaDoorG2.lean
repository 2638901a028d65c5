/- The drawings of states: with a network, two of one network, a number. -/
import Derived.Test.YtobbmnbkjeoheaaDoorD4
import Derived.Test.YtobbmnbkjeoheaaDoorG1
import Derived.Test.YtobbmnbkjeoheaaDoorB2
import Derived.Deep.DeepCutAuto
namespace Go.Proofs.YtobbmnbkjeoheaaDoor
open Go.ChangeShapes Go.WideShapes Go.ChangeAt Go.RowKit

theorem RowB.alloc {w : World} {A : Option Addr} {n : Nat} {code : List Int} (hr : RowB w A n code) (o : Obj) : RowB (w.alloc o) A n code := by
  refine ⟨hr.1, fun hp => ?_, hr.2.2⟩
  obtain ⟨b, off, e, hlt, hcl⟩ := hr.2.1 hp
  exact ⟨b, off, e, by simp; omega, fun k x hk => by rw [World.cell?_alloc_lt _ _ _ hlt]; exact hcl k x hk⟩

theorem make11b (w : World) : (Instr.makeSlice 35 (.int .i64 11) (.int .i64 11)).run Tryd.prog w = .ok (.slice (some ⟨w.heap.size, 0, none⟩) 11 11) (w.alloc (.cells (madeCells (Value.bool false).cells 11) 4)) := by
  obtain ⟨i0, hi, hz0, hz1, hz2⟩ := info_parts boolInfoG
  have := run_make (P := Tryd.prog) w 35 4 i0 _ Tryd.underlying35 hi hz0 .i64 .i64 11 11 (by omega) (by omega) (by rw [hz2]; omega) (by omega)
  rw [this]
  show Result.ok _ (w.alloc (.cells (madeCells (Value.bool false).cells (11 * i0.size)) _)) = _
  rw [hz1]
  rfl
theorem made11b : (madeCells (Value.bool false).cells 11).toList.take 11 = (List.replicate 11 false).map Value.bool := by
  have h := madeCells_row (f := fun t : Bool => [Value.bool t]) (m := 1) (fun _ => rfl) (Value.bool false).cells false rfl (by decide) 11
  rw [Nat.mul_one] at h
  rw [h]; rfl

/-- What is behind the reader and the network, where no result lies in memory. -/
structure DrawS2 (w wx : World) (R X : Nat) (lim bs : Int) (v : Value) (ls : List L3) : Prop where
  hR : w.heap.size ≤ R
  var : IsBlk wx X 25 #[.int .i64 bs, v]
  hX : R < X
  own : OwnL wx (R + 1) v ls
  rd : Rd wx R lim
  bel : Below w.heap.size w wx
section
variable {w wx w' : World} {R X : Nat} {lim lim' bs : Int} {v : Value} {ls : List L3}
theorem DrawS2.pick (h : DrawS2 w wx R X lim bs v ls) (hr : Rd w' R lim') (hg : wx.grownBy w' (some R)) : DrawS2 w w' R X lim' bs v ls := by
  have h2 := h.hX
  have h1 := h.hR
  exact ⟨h.hR, (hg.block _ h.var.lt (by simp; omega)).trans h.var, h2,
    h.own.far hg (fun q hq e => by injection e with e; have := (World.ownsRow.lt h.own q hq).1; omega), hr, h.bel.grown hg h.bel.size (fun q hq => by injection hq with hq; omega)⟩
theorem DrawS2.drew (h : DrawS2 w wx R X lim bs v ls) : DrawS2 w wx.drew R X lim bs v ls := ⟨h.hR, h.var, h.hX, h.own, h.rd, h.bel.drew⟩
end
end Go.Proofs.YtobbmnbkjeoheaaDoor
