/- The drawing of a network and a state with two buses. -/
import Derived.Test.YtlofhkhfomhdaaaDoorK2
namespace Go.Proofs.YtlofhkhfomhdaaaDoor
open Go.ChangeShapes Go.WideShapes Go.ChangeAt Go.RowKit

set_option maxRecDepth 100000 in
set_option maxHeartbeats 4000000 in
theorem drawSameIsland_any (A : Option Addr) (n c : Nat) (code : List Int) (w : World) (hr : RowB w A n code) (hnc : n ≤ c) (hc : c ≤ 9223372036854775807) :
    Calls Tryd.prog 28 #[.slice A n c] w fun e w' => ∃ bs A c ls v ts a b, e = .returned (.tuple #[.agg #[.int .i64 bs, .slice A ls.length c], v, .int .i64 a, .int .i64 b]) ∧ RowL w' A ls.length ls ∧ ls.length ≤ 12 ∧ -1 ≤ bs ∧ bs ≤ 9 ∧ OwnT w' w.heap.size v ts ∧ ts.length ≤ 13 ∧ Below w.heap.size w w' := by
  go_enter Tryd.func28, Tryd.ntmps28
  go_wp2_with fail
  refine (open_any A n c code _ (hr.alloc _) hnc hc).mono ?_
  rintro e w1 ⟨rfl, hb1, hr1, hs1⟩
  simp only [World.size_alloc] at hb1 hr1 hs1
  have HS := Lib.hid hs1
  clear hs1
  go_wp2_with fail
  refine (switched_any (w.heap.size + 1) 6 0 (by decide) (by decide) (by decide) _ (by rw [HS.out]; omega) hr1).mono ?_
  rintro e w2 ⟨bs, A', c', ls, v, ts, rfl, ho, hl, hb0, hb9, hO, hts, hr2, hg2⟩
  obtain ⟨As, cs, rfl, _, _⟩ := hO.row
  have S1 := Lib.hid (draw_startS (bs := bs) hb1 rfl HS.out ho hr2 hg2)
  have O1 := Lib.hid (show OwnT (w2.alloc (.cells #[.int .i64 bs, .slice A' ls.length c'] 25)) (w.heap.size + 1 + 1) (.slice As ts.length cs) ts from (hO.more (by rw [HS.out]; omega)).keep (below_bx _ _))
  clear hr2 hg2 ho hO hr hr1 hb1
  generalize hR : w.heap.size + 1 = R at *
  have HRR := Lib.hid hR
  clear hR
  have hX1 : ¬ w.heap.size = w2.heap.size := by have := S1.out.hR; have := S1.out.hX; omega
  have hRw := S1.out.hR
  go_upto_region 3 with fail
  generalize w2.heap.size = X at *
  generalize hw3 : w2.alloc (.cells #[.int .i64 bs, .slice A' ls.length c'] 25) = w3 at *
  obtain ⟨p0, p1, p2, p3⟩ := S1.out.var.two
  obtain ⟨q0, q1, q2, q3⟩ := S1.out.ret.two
  have D1 := Lib.hid S1.out.drew
  have DO := Lib.hid (show OwnT w3.drew (R + 1) (.slice As ts.length cs) ts from O1.out)
  have hk1 : IntKind.i64.wrap (bs + 1) = bs + 1 := IntWalk.i64_in _ (by omega)
  have hk2 := Lib.hid (show bs + 1 ≤ 1000000 by omega)
  have hlt := Lib.hid (Nat.lt_succ_self R)
  clear hw3 S1 O1 HS
  go_region_with (first
    | (go_at_call 47; refine (pick_any R _ _ (by decide) hk2.out _ T2.out.rd).mono ?_; rintro e w6 ⟨vc, rfl, hf0, hf1, _, hr6, hg6⟩; have T3 := Lib.hid (T2.out.pick hr6 hg6); have O6 := Lib.hid (O5.out.pick hg6 hlt.out); obtain ⟨p0, p1, p2, p3⟩ := T3.out.var.two; obtain ⟨q0, q1, q2, q3⟩ := T3.out.ret.two)
    | (go_at_call 47; refine (pick_any R 9 _ (by decide) (by decide) _ T1.out.rd).mono ?_; rintro e w5 ⟨vb, rfl, hd0, hd1, _, hr5, hg5⟩; have T2 := Lib.hid (T1.out.pick hr5 hg5); have O5 := Lib.hid (O4.out.pick hg5 hlt.out); obtain ⟨p0, p1, p2, p3⟩ := T2.out.var.two; obtain ⟨q0, q1, q2, q3⟩ := T2.out.ret.two)
    | (go_at_call 47; refine (pick_any R _ _ (by decide) hk2.out _ D1.out.rd).mono ?_; rintro e w4 ⟨va, rfl, he0, he1, _, hr4, hg4⟩; have T1 := Lib.hid (D1.out.pick hr4 hg4); have O4 := Lib.hid (DO.out.pick hg4 hlt.out); obtain ⟨p0, p1, p2, p3⟩ := T1.out.var.two; obtain ⟨q0, q1, q2, q3⟩ := T1.out.ret.two))
  all_goals clear hk1
  all_goals go_wp2_with fail
  all_goals
    have T4 := T3.out.done (.int .i64 bs)
    refine bodyPost_ret (v := .tuple #[.agg #[.int .i64 bs, .slice A' ls.length c'], .slice As ts.length cs, .int .i64 (IntKind.i64.wrap (va - IntKind.i64.wrap (vb.tdiv 8))), .int .i64 vc]) (by simp [results, Tryd.results28, go_sem, q0, q1]) rfl ⟨bs, A', c', ls, _, ts, _, _, rfl, T4.1, hl, hb0, hb9, (O6.out.far1 (by omega) _ _).more (by omega), hts, T4.2⟩
end Go.Proofs.YtlofhkhfomhdaaaDoor
