/- The drawings of states: with a network, two of one network, a number. -/
import Derived.Test.YtcgbigbbonlgfaaDoorD4
import Derived.Test.YtcgbigbbonlgfaaDoorG1
import Derived.Test.YtcgbigbbonlgfaaDoorB2
import Derived.Deep.DeepCutAuto
namespace Go.Proofs.YtcgbigbbonlgfaaDoor
open Go.ChangeShapes Go.WideShapes Go.ChangeAt Go.RowKit

theorem RowB.alloc {w : World} {A : Option Addr} {n : Nat} {code : List Int} (hr : RowB w A n code) (o : Obj) : RowB (w.alloc o) A n code := by
  refine ⟨hr.1, fun hp => ?_, hr.2.2⟩
  obtain ⟨b, off, e, hlt, hcl⟩ := hr.2.1 hp
  exact ⟨b, off, e, by simp; omega, fun k x hk => by rw [World.cell?_alloc_lt _ _ _ hlt]; exact hcl k x hk⟩

theorem drawStateOf_any (A : Option Addr) (n c : Nat) (code : List Int) (w : World) (hr : RowB w A n code) (hnc : n ≤ c) (hc : c ≤ 9223372036854775807) :
    Calls Tryd.prog 19 #[.slice A n c] w fun e w' => ∃ m l, e = .returned (.tuple #[.int .i64 m, .int .i64 l]) ∧ Below w.heap.size w w' := by
  go_enter Tryd.func19, Tryd.ntmps19
  go_wp2_with fail
  refine (open_any A n c code _ hr hnc hc).mono ?_
  rintro e w1 ⟨rfl, hb1, hr1, hs1⟩
  clear hs1
  go_wp2_with fail
  refine (pick_any w.heap.size 13 _ (by decide) (by decide) _ hr1).mono ?_
  rintro e w2 ⟨v2, rfl, _, _, _, hr2, hg2⟩
  have a2 := hb1.grown hg2 hb1.size (fun q hq => by injection hq with hq; omega)
  go_wp2_with fail
  refine (pick_any w.heap.size 256 _ (by decide) (by decide) _ hr2).mono ?_
  rintro e w3 ⟨v3, rfl, _, _, _, hr3, hg3⟩
  have a3 := a2.grown hg3 a2.size (fun q hq => by injection hq with hq; omega)
  go_wp2_with fail
  refine (pick_any w.heap.size 5 _ (by decide) (by decide) _ hr3).mono ?_
  rintro e w4 ⟨v4, rfl, _, _, _, hr4, hg4⟩
  have a4 := a3.grown hg4 a3.size (fun q hq => by injection hq with hq; omega)
  go_wp2_with fail
  refine (pick_any w.heap.size 2 _ (by decide) (by decide) _ hr4).mono ?_
  rintro e w5 ⟨v5, rfl, _, _, _, hr5, hg5⟩
  have a5 := a4.grown hg5 a4.size (fun q hq => by injection hq with hq; omega)
  go_wp2_with fail
  refine (pick_any w.heap.size 9 _ (by decide) (by decide) _ hr5).mono ?_
  rintro e w6 ⟨v6, rfl, _, _, _, hr6, hg6⟩
  have a6 := a5.grown hg6 a5.size (fun q hq => by injection hq with hq; omega)
  go_wp2
  go_ret2
  exact ⟨_, _, rfl, a6⟩

theorem make11b (w : World) : (Instr.makeSlice 26 (.int .i64 11) (.int .i64 11)).run Tryd.prog w = .ok (.slice (some ⟨w.heap.size, 0, none⟩) 11 11) (w.alloc (.cells (madeCells (Value.bool false).cells 11) 4)) := by
  obtain ⟨i0, hi, hz0, hz1, hz2⟩ := info_parts boolInfoG
  have := run_make (P := Tryd.prog) w 26 4 i0 _ Tryd.underlying26 hi hz0 .i64 .i64 11 11 (by omega) (by omega) (by rw [hz2]; omega) (by omega)
  rw [this]
  show Result.ok _ (w.alloc (.cells (madeCells (Value.bool false).cells (11 * i0.size)) _)) = _
  rw [hz1]
  rfl
theorem made11b : (madeCells (Value.bool false).cells 11).toList.take 11 = (List.replicate 11 false).map Value.bool := by
  have h := madeCells_row (f := fun t : Bool => [Value.bool t]) (m := 1) (fun _ => rfl) (Value.bool false).cells false rfl (by decide) 11
  rw [Nat.mul_one] at h
  rw [h]; rfl

set_option maxRecDepth 100000 in
set_option maxHeartbeats 1000000 in
theorem drawStateNumber_any (A : Option Addr) (n c : Nat) (code : List Int) (w : World) (hr : RowB w A n code) (hnc : n ≤ c) (hc : c ≤ 9223372036854775807) :
    Calls Tryd.prog 14 #[.slice A n c] w fun e w' => ∃ v ts, e = .returned v ∧ OwnT w' w.heap.size v ts ∧ ts.length ≤ 13 ∧ Below w.heap.size w w' := by
  have hmk := make11b
  go_enter Tryd.func14, Tryd.ntmps14
  go_wp2_with fail
  refine (open_any A n c code _ hr hnc hc).mono ?_
  rintro e w1 ⟨rfl, hb1, hr1, hs1⟩
  have HS1 := Lib.hid hs1
  clear hs1
  go_wp2_with fail
  refine (net_any w.heap.size 0 0 (by decide) (by decide) _ (by rw [HS1.out]; omega) hr1).mono ?_
  rintro e w2 ⟨bs, v, ls, rfl, ho, hl, hb0, hb9, hr2, hg2⟩
  have a2 := hb1.grown hg2 hb1.size (fun q hq => by injection hq with hq; omega)
  obtain ⟨A', c', rfl, _⟩ := ho.row
  clear ho
  have hlt2 : w.heap.size < w2.heap.size := by have := hg2.size; have := HS1.out; omega
  generalize ls.length = m at *
  go_wp2_with fail
  refine (state_any w.heap.size bs A' m c' 0 _ (by decide) (by decide) _ hlt2 hr2 hl).mono ?_
  rintro e w3 ⟨v3, ts, rfl, hO, hts, hr3, hg3⟩
  have a3 := a2.grown hg3 a2.size (fun q hq => by injection hq with hq; omega)
  have HO := Lib.hid hO
  clear hO
  go_wp2_with fail
  refine (odd_any w.heap.size 9 _ (by decide) (by decide) _ hr3).mono ?_
  rintro e w4 ⟨vo, rfl, _, hr4, hg4⟩
  have a4 := a3.grown hg4 a3.size (fun q hq => by injection hq with hq; omega)
  cases vo
  · go_wp2
    go_ret
    exact ⟨_, ts, rfl, (HO.out.pick hg4 hlt2).more a2.size, hts, a4⟩
  · go_wp2
    go_ret
    exact ⟨_, List.replicate 11 false, rfl, OwnT.mk (by simp) a4.size (IsBlk.new _ _ _) (Nat.le_refl _) (by rw [size_madeCells]; exact Nat.le_refl _) made11b, by simp, a4.alloc a4.size _⟩

/-- What is behind the reader and the network, where no result lies in memory. -/
structure DrawS2 (w wx : World) (R X : Nat) (lim bs : Int) (v : Value) (ls : List L3) : Prop where
  hR : w.heap.size ≤ R
  var : IsBlk wx X 25 #[.int .i64 bs, v]
  hX : R < X
  own : OwnL wx (R + 1) v ls
  rd : Rd wx R lim
  bel : Below w.heap.size w wx
section
variable {w wx w' : World} {R X : Nat} {lim lim' bs : Int} {v : Value} {ls : List L3}
theorem DrawS2.pick (h : DrawS2 w wx R X lim bs v ls) (hr : Rd w' R lim') (hg : wx.grownBy w' (some R)) : DrawS2 w w' R X lim' bs v ls := by
  have h2 := h.hX
  have h1 := h.hR
  exact ⟨h.hR, (hg.block _ h.var.lt (by simp; omega)).trans h.var, h2,
    h.own.far hg (fun q hq e => by injection e with e; have := (World.ownsRow.lt h.own q hq).1; omega), hr, h.bel.grown hg h.bel.size (fun q hq => by injection hq with hq; omega)⟩
theorem DrawS2.drew (h : DrawS2 w wx R X lim bs v ls) : DrawS2 w wx.drew R X lim bs v ls := ⟨h.hR, h.var, h.hX, h.own, h.rd, h.bel.drew⟩
end
end Go.Proofs.YtcgbigbbonlgfaaDoor
