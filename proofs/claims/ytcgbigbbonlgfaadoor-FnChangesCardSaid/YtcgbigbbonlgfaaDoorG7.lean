/- The drawings of two states, and of a state with a list of lines. -/
import Derived.Test.YtcgbigbbonlgfaaDoorG4
import Derived.Test.YtcgbigbbonlgfaaDoorB4
namespace Go.Proofs.YtcgbigbbonlgfaaDoor
open Go.ChangeShapes Go.WideShapes Go.ChangeAt Go.RowKit

set_option maxRecDepth 100000 in
set_option maxHeartbeats 1000000 in
theorem drawChanges_any (A : Option Addr) (n c : Nat) (code : List Int) (w : World) (hr : RowB w A n code) (hnc : n ≤ c) (hc : c ≤ 9223372036854775807) :
    Calls Tryd.prog 25 #[.slice A n c] w fun e w' => ∃ v ts v' ts', e = .returned (.tuple #[v, v']) ∧ OwnT w' w.heap.size v ts ∧ ts.length ≤ 13 ∧ OwnT w' w.heap.size v' ts' ∧ ts'.length ≤ 13 ∧ Below w.heap.size w w' := by
  go_enter Tryd.func25, Tryd.ntmps25
  go_wp2_with fail
  refine (open_any A n c code _ hr hnc hc).mono ?_
  rintro e w1 ⟨rfl, hb1, hr1, hs1⟩
  have HS := Lib.hid hs1
  clear hs1
  go_wp2_with fail
  refine (net_any w.heap.size 0 0 (by omega) (by omega) _ (by rw [HS.out]; omega) hr1).mono ?_
  rintro e w2 ⟨bs, v, ls, rfl, ho, hl, hb0, hb9, hr2, hg2⟩
  obtain ⟨A', c', rfl, _⟩ := ho.row
  have S1 := Lib.hid (draw_start2 (bs := bs) hb1 HS.out ho hr2 hg2)
  clear hr2 hg2 ho
  have hX1 : ¬ w.heap.size = w2.heap.size := by have := S1.out.hR; have := S1.out.hX; omega
  have HLm := Lib.hid hl
  go_upto_region 3 with fail
  obtain ⟨p0, p1, p2, p3⟩ := S1.out.var.two
  have D1 := Lib.hid S1.out.drew
  go_region_with (first
    | (go_at_call 34; refine (state_any w.heap.size bs A' ls.length c' 7 _ (by decide) (by decide) _ T1.out.rd.lt T1.out.rd HLm.out).mono ?_; rintro e w4 ⟨vt, us, rfl, hO2, hus, hr4, hg4⟩; have T2 := Lib.hid (T1.out.pick hr4 hg4); have TO := Lib.hid (O3.out.pick hg4 D1.out.rd.lt); have TP := Lib.hid hO2; clear hO2; obtain ⟨p0, p1, p2, p3⟩ := T2.out.var.two)
    | (go_at_call 34; refine (state_any w.heap.size bs A' ls.length c' 0 _ (by decide) (by decide) _ D1.out.rd.lt D1.out.rd HLm.out).mono ?_; rintro e w3 ⟨vs, ts, rfl, hO, hts, hr3, hg3⟩; have T1 := Lib.hid (D1.out.pick hr3 hg3); have O3 := Lib.hid hO; clear hO; obtain ⟨p0, p1, p2, p3⟩ := T1.out.var.two))
  all_goals go_wp2_with fail
  all_goals go_ret2
  all_goals exact ⟨_, ts, _, us, rfl, TO.out.more D1.out.bel.size, hts, TP.out.more T1.out.bel.size, hus, T2.out.bel⟩

end Go.Proofs.YtcgbigbbonlgfaaDoor
