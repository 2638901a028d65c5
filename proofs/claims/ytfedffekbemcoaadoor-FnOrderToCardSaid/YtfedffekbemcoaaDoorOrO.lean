/- Switching orders: the drawing of two states, FnOrderTo: the walk. -/
import Derived.Test.YtfedffekbemcoaaDoorOr4
import Derived.Test.YtfedffekbemcoaaDoorOr5
import Derived.Test.YtfedffekbemcoaaDoorOr6
import Derived.Test.YtfedffekbemcoaaDoorOrK
import Derived.Test.YtfedffekbemcoaaDoorD3
import Derived.Test.YtfedffekbemcoaaDoorBDB
import Derived.Test.YtfedffekbemcoaaDoorG4
namespace Go.Proofs.YtfedffekbemcoaaDoor
open Go.ChangeShapes Go.WideShapes Go.ChangeAt Go.RowKit

theorem draw_startO {w w1 w2 : World} {bs lim : Int} {v : Value} {ls : List L3} (hb1 : Below w.heap.size w w1) (hs : w.heap.size + 1 ≤ w1.heap.size)
    (ho : OwnL w2 (w1.heap.size + 1) v ls) (hr : Rd w2 w.heap.size lim) (hg : w1.grownBy w2 (some w.heap.size)) : DrawS2 w (w2.alloc (.cells #[.int .i64 bs, v] 41)) w.heap.size w2.heap.size lim bs v ls := by
  have h12 := hg.size
  have o2 : OwnL w2 (w.heap.size + 1) v ls := by
    refine ⟨ho.1, ?_⟩
    rcases ho.2 with h | ⟨g, cap, cur, h1, h2, h3⟩
    · exact .inl h
    · exact .inr ⟨g, cap, cur, h1, by omega, h3⟩
  exact ⟨Nat.le_refl _, IsBlk.new _ _ _, by omega, o2.keep (below_bx _ _), hr.alloc _, (hb1.grown hg (by omega) (fun q hq => by injection hq with hq; omega)).alloc (by omega) _⟩
theorem bools_make (n : Nat) (hn : n ≤ 1048576) (w : World) : (Instr.makeSlice 35 (.int .i64 (n : Int)) (.int .i64 (n : Int))).run Tryd.prog w = .ok (.slice (some ⟨w.heap.size, 0, none⟩) n n) (w.alloc (.cells (madeCells (Value.bool false).cells n) 4)) := by
  obtain ⟨i0, hi, hz0, hz1, hz2⟩ := info_parts boolInfo5
  have := run_make (P := Tryd.prog) w 35 4 i0 _ Tryd.underlying35 hi hz0 .i64 .i64 n n (by omega) (by omega) (by rw [hz2]; omega) (by omega)
  rw [this, Int.toNat_natCast, hz1, Nat.mul_one]
theorem bools_own (w : World) : OwnT (w.alloc (.cells (madeCells #[Value.bool false] 11) 4)) w.heap.size (.slice (some ⟨w.heap.size, 0, none⟩) 11 11) (List.replicate 11 false) :=
  OwnT.mk (by simp) (Nat.le_refl _) (IsBlk.new w _ _) (Nat.le_refl _) (by rw [size_madeCells]; decide) (by kernel_rfl)
theorem bools_two (w : World) : OwnT ((w.alloc (.cells (madeCells #[Value.bool false] 11) 4)).alloc (.cells (madeCells #[Value.bool false] 11) 4)).drew w.heap.size (.slice (some ⟨w.heap.size, 0, none⟩) 11 11) (List.replicate 11 false) ∧
    OwnT ((w.alloc (.cells (madeCells #[Value.bool false] 11) 4)).alloc (.cells (madeCells #[Value.bool false] 11) 4)).drew w.heap.size (.slice (some ⟨w.heap.size + 1, 0, none⟩) 11 11) (List.replicate 11 false) := by
  refine ⟨((bools_own w).alloc _).drew, ?_⟩
  have h := (bools_own (w.alloc (.cells (madeCells #[Value.bool false] 11) 4))).drew
  rw [World.size_alloc] at h
  exact h.more (by omega)
set_option maxRecDepth 100000 in
set_option maxHeartbeats 2000000 in
theorem drawOrderTo_any (A : Option Addr) (n c : Nat) (code : List Int) (w : World) (hr : RowB w A n code) (hnc : n ≤ c) (hc : c ≤ 9223372036854775807) :
    Calls Tryd.prog 22 #[.slice A n c] w fun e w' => ∃ v ts v' ts', e = .returned (.tuple #[v, v']) ∧ OwnT w' w.heap.size v ts ∧ ts.length ≤ 13 ∧ OwnT w' w.heap.size v' ts' ∧ ts'.length ≤ 13 ∧ Below w.heap.size w w' := by
  have hmk : ∀ w : World, (Instr.makeSlice 35 (.int .i64 11) (.int .i64 11)).run Tryd.prog w = .ok (.slice (some ⟨w.heap.size, 0, none⟩) 11 11) (w.alloc (.cells (madeCells (Value.bool false).cells 11) 4)) := fun w => bools_make 11 (by omega) w
  have HMK := Lib.hid hmk
  clear hmk
  go_enter Tryd.func22, Tryd.ntmps22
  go_wp2_with fail
  refine (open_any A n c code _ hr hnc hc).mono ?_
  rintro e w1 ⟨rfl, hb1, hr1, hs1⟩
  have HS := Lib.hid hs1
  clear hs1
  go_wp2_with fail
  refine (odd_any w.heap.size 20 0 (by decide) (by decide) _ hr1).mono ?_
  rintro e w2 ⟨vo, rfl, _, hr2, hg2⟩
  have b2 : Below w.heap.size w w2 := hb1.grown hg2 hb1.size (fun q hq => by injection hq with hq; omega)
  have hs2 : w.heap.size + 1 ≤ w2.heap.size := by have := hg2.size; have := HS.out; omega
  have B2 := Lib.hid b2
  have R2 := Lib.hid hr2
  clear hr1 hg2 hb1 hr2 b2
  cases vo
  · go_wp2_with fail
    refine (net_any w.heap.size 0 _ (by omega) (by omega) _ (by omega) R2.out).mono ?_
    rintro e w3 ⟨bs, v, ls, rfl, ho, hl, hb0, hb9, hr3, hg3⟩
    obtain ⟨A', c', rfl, _⟩ := ho.row
    have S1 := Lib.hid (draw_startO (bs := bs) B2.out hs2 ho hr3 hg3)
    clear hr3 hg3 ho
    have hX1 : ¬ w.heap.size = w3.heap.size := by have := S1.out.hR; have := S1.out.hX; omega
    have HLm := Lib.hid hl
    go_upto_region 5 with fail
    obtain ⟨p0, p1, p2, p3⟩ := S1.out.var.two
    have D1 := Lib.hid S1.out.drew
    go_region_with (first
      | (go_at_call 55; refine (state_any w.heap.size bs A' ls.length c' 7 _ (by decide) (by decide) _ T1.out.rd.lt T1.out.rd HLm.out).mono ?_; rintro e w4 ⟨vt, us, rfl, hO2, hus, hr4, hg4⟩; have T2 := Lib.hid (T1.out.pick hr4 hg4); have TO := Lib.hid (O3.out.pick hg4 D1.out.rd.lt); have TP := Lib.hid hO2; clear hO2; obtain ⟨p0, p1, p2, p3⟩ := T2.out.var.two)
      | (go_at_call 55; refine (state_any w.heap.size bs A' ls.length c' 0 _ (by decide) (by decide) _ D1.out.rd.lt D1.out.rd HLm.out).mono ?_; rintro e w3 ⟨vs, ts, rfl, hO, hts, hr3, hg3⟩; have T1 := Lib.hid (D1.out.pick hr3 hg3); have O3 := Lib.hid hO; clear hO; obtain ⟨p0, p1, p2, p3⟩ := T1.out.var.two))
    all_goals go_wp2_with fail
    all_goals go_ret2
    all_goals exact ⟨_, ts, _, us, rfl, TO.out.more D1.out.bel.size, hts, TP.out.more T1.out.bel.size, hus, T2.out.bel⟩
  · have hmk := HMK.out
    go_wp2_with fail
    go_region
    all_goals go_wp2
    all_goals go_ret2
    all_goals
      have h2 := bools_two w2
      have hb : Below w.heap.size w ((w2.alloc (.cells (madeCells #[Value.bool false] 11) 4)).alloc (.cells (madeCells #[Value.bool false] 11) 4)).drew := ((B2.out.alloc B2.out.size _).alloc (by have := B2.out.size; simp; omega) _).drew
      first
        | exact ⟨_, _, _, _, rfl, h2.1.more B2.out.size, by simp, h2.2.more B2.out.size, by simp, hb⟩
        | exact ⟨_, _, _, _, rfl, h2.2.more B2.out.size, by simp, h2.1.more B2.out.size, by simp, hb⟩
end Go.Proofs.YtfedffekbemcoaaDoor
