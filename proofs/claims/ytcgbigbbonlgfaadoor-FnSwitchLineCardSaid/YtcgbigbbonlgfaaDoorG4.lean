/- The drawings of a network with a state, of two states, of a state with a list of lines. -/
import Derived.Test.YtcgbigbbonlgfaaDoorG2
import Derived.Test.YtcgbigbbonlgfaaDoorB5
import Derived.Test.YtcgbigbbonlgfaaDoorB6
namespace Go.Proofs.YtcgbigbbonlgfaaDoor
open Go.ChangeShapes Go.WideShapes Go.ChangeAt Go.RowKit

theorem OwnT.done {wx : World} {base q : Nat} {v : Value} {ts : List Bool} (h : OwnT wx base v ts) (hq : q < base) (u u' : Value) : OwnT ((wx.setCell ⟨q, 0, none⟩ u).setCell ⟨q, 1, none⟩ u') base v ts :=
  h.far (grown_then (grown_put _ _ _ _) (grown_put _ _ _ _)) (fun p hp e => by injection e with e; have := (h.lt p hp).1; omega)

set_option maxRecDepth 100000 in
set_option maxHeartbeats 2000000 in
theorem drawStateValid_any (A : Option Addr) (n c : Nat) (code : List Int) (w : World) (hr : RowB w A n code) (hnc : n ≤ c) (hc : c ≤ 9223372036854775807) :
    Calls Tryd.prog 9 #[.slice A n c] w fun e w' => ∃ bs A c ls v ts, e = .returned (.tuple #[.agg #[.int .i64 bs, .slice A ls.length c], v]) ∧ RowL w' A ls.length ls ∧ ls.length ≤ 12 ∧ OwnT w' w.heap.size v ts ∧ ts.length ≤ 13 ∧ Below w.heap.size w w' := by
  go_enter Tryd.func9, Tryd.ntmps9
  go_wp2_with fail
  refine (open_any A n c code _ (hr.alloc _) hnc hc).mono ?_
  rintro e w1 ⟨rfl, hb1, hr1, hs1⟩
  simp only [World.size_alloc] at hb1 hr1 hs1
  have HS := Lib.hid hs1
  clear hs1
  go_wp2_with fail
  refine (net_any (w.heap.size + 1) 6 0 (by omega) (by omega) _ (by rw [HS.out]; omega) hr1).mono ?_
  rintro e w2 ⟨bs, v, ls, rfl, ho, hl, hb0, hb9, hr2, hg2⟩
  obtain ⟨A', c', rfl, _⟩ := ho.row
  have S1 := Lib.hid (draw_start (bs := bs) hb1 rfl HS.out ho hr2 hg2)
  clear hr2 hg2 ho
  generalize hR : w.heap.size + 1 = R at *
  have HRR := Lib.hid hR
  clear hR
  go_upto_region 3 with fail
  obtain ⟨p0, p1, p2, p3⟩ := S1.out.var.two
  obtain ⟨q0, q1, q2, q3⟩ := S1.out.ret.two
  have hX1 : ¬ w.heap.size = w2.heap.size := by have := S1.out.hR; have := S1.out.hX; omega
  generalize w2.heap.size = X at *
  have D1 := Lib.hid S1.out.drew
  have HLm := Lib.hid hl
  go_region_with (first
    | (go_at_call 34; refine (state_any R bs A' ls.length c' 3 _ (by decide) (by decide) _ D1.out.rd.lt D1.out.rd HLm.out).mono ?_; rintro e w3 ⟨vs, ts, rfl, hO, hts, hr3, hg3⟩; have T1 := Lib.hid (D1.out.pick hr3 hg3); have TO := Lib.hid hO; clear hO; obtain ⟨p0, p1, p2, p3⟩ := T1.out.var.two; obtain ⟨q0, q1, q2, q3⟩ := T1.out.ret.two))
  all_goals go_wp2_with fail
  all_goals
    have T4 := T1.out.done (.int .i64 bs)
    obtain ⟨As, cs, rfl, _, _⟩ := TO.out.row
    refine bodyPost_ret (v := .tuple #[.agg #[.int .i64 bs, .slice A' ls.length c'], .slice As ts.length cs]) (by simp [results, Tryd.results9, go_sem, q0, q1, q2, q3]) rfl ⟨bs, A', c', ls, _, ts, rfl, T4.1, hl, (TO.out.done (by have := D1.out.hR; have := D1.out.hX; have := D1.out.var.lt; omega) _ _).more (by have := D1.out.hR; have := D1.out.hX; have := D1.out.var.lt; omega), hts, T4.2⟩

set_option maxRecDepth 100000 in
set_option maxHeartbeats 1000000 in
theorem drawSwitchLine_any (A : Option Addr) (n c : Nat) (code : List Int) (w : World) (hr : RowB w A n code) (hnc : n ≤ c) (hc : c ≤ 9223372036854775807) :
    Calls Tryd.prog 21 #[.slice A n c] w fun e w' => ∃ bs A c ls v ts line sw, e = .returned (.tuple #[.agg #[.int .i64 bs, .slice A ls.length c], v, .int .i64 line, .bool sw]) ∧ RowL w' A ls.length ls ∧ ls.length ≤ 12 ∧ OwnT w' w.heap.size v ts ∧ ts.length ≤ 13 ∧ Below w.heap.size w w' := by
  go_enter Tryd.func21, Tryd.ntmps21
  go_wp2_with fail
  refine (open_any A n c code _ (hr.alloc _) hnc hc).mono ?_
  rintro e w1 ⟨rfl, hb1, hr1, hs1⟩
  simp only [World.size_alloc] at hb1 hr1 hs1
  have HS := Lib.hid hs1
  clear hs1
  go_wp2_with fail
  refine (net_any (w.heap.size + 1) 9 0 (by omega) (by omega) _ (by rw [HS.out]; omega) hr1).mono ?_
  rintro e w2 ⟨bs, v, ls, rfl, ho, hl, hb0, hb9, hr2, hg2⟩
  obtain ⟨A', c', rfl, _⟩ := ho.row
  have S1 := Lib.hid (draw_start (bs := bs) hb1 rfl HS.out ho hr2 hg2)
  clear hr2 hg2 ho
  generalize hR : w.heap.size + 1 = R at *
  have HRR := Lib.hid hR
  clear hR
  have hX1 : ¬ w.heap.size = w2.heap.size := by have := S1.out.hR; have := S1.out.hX; omega
  have HLm := Lib.hid hl
  go_wp2_with fail
  generalize w2.heap.size = X at *
  refine (state_any R bs A' ls.length c' 9 _ (by decide) (by decide) _ S1.out.rd.lt S1.out.rd HLm.out).mono ?_
  rintro e w3 ⟨vs, ts, rfl, hO, hts, hr3, hg3⟩
  have S2 := Lib.hid (S1.out.pick hr3 hg3)
  obtain ⟨As, cs, rfl, _, _⟩ := hO.row
  have hlo := S1.out.var.lt
  have hXR := S1.out.hX
  have hRw := S1.out.hR
  have O2 := Lib.hid (hO.more (Nat.le_of_lt hlo))
  clear hO hr3 hg3 hlo
  go_upto_region 4 with fail
  obtain ⟨p0, p1, p2, p3⟩ := S2.out.var.two
  obtain ⟨q0, q1, q2, q3⟩ := S2.out.ret.two
  have D1 := Lib.hid S2.out.drew
  have DO := Lib.hid (show OwnT w3.drew X (.slice As ts.length cs) ts from O2.out)
  have hk1 : IntKind.i64.wrap ((ts.length : Int) + 1) = (ts.length : Int) + 1 := IntWalk.i64_in _ (by omega)
  have hk2 := Lib.hid (show (ts.length : Int) + 1 ≤ 1000000 by omega)
  go_region_with (first
    | (go_at_call 41; refine (pick_any R 2 _ (by decide) (by decide) _ T2.out.rd).mono ?_; rintro e w6 ⟨vc, rfl, hc0, hc1, _, hr6, hg6⟩; have T3 := Lib.hid (T2.out.pick hr6 hg6); have O6 := Lib.hid (O5.out.pick hg6 hXR); obtain ⟨p0, p1, p2, p3⟩ := T3.out.var.two; obtain ⟨q0, q1, q2, q3⟩ := T3.out.ret.two)
    | (go_at_call 41; refine (pick_any R 9 _ (by decide) (by decide) _ T1.out.rd).mono ?_; rintro e w5 ⟨vb, rfl, hd0, hd1, _, hr5, hg5⟩; have T2 := Lib.hid (T1.out.pick hr5 hg5); have O5 := Lib.hid (O4.out.pick hg5 hXR); obtain ⟨p0, p1, p2, p3⟩ := T2.out.var.two; obtain ⟨q0, q1, q2, q3⟩ := T2.out.ret.two)
    | (go_at_call 41; refine (pick_any R _ _ (by decide) hk2.out _ D1.out.rd).mono ?_; rintro e w4 ⟨va, rfl, he0, he1, _, hr4, hg4⟩; have T1 := Lib.hid (D1.out.pick hr4 hg4); have O4 := Lib.hid (DO.out.pick hg4 hXR); obtain ⟨p0, p1, p2, p3⟩ := T1.out.var.two; obtain ⟨q0, q1, q2, q3⟩ := T1.out.ret.two))
  all_goals clear hk1
  all_goals go_wp2_with fail
  all_goals
    have T4 := T3.out.done (.int .i64 bs)
    refine bodyPost_ret (v := .tuple #[.agg #[.int .i64 bs, .slice A' ls.length c'], .slice As ts.length cs, .int .i64 (IntKind.i64.wrap (va - IntKind.i64.wrap (vb.tdiv 8))), .bool (vc == 0)]) (by simp [results, Tryd.results21, go_sem, q0, q1, q2, q3]) rfl ⟨bs, A', c', ls, _, ts, _, _, rfl, T4.1, hl, (O6.out.done (by omega) _ _).more (by omega), hts, T4.2⟩

theorem draw_start2 {w w1 w2 : World} {bs : Int} {v : Value} {ls : List L3} (hb1 : Below w.heap.size w w1) (hs : w1.heap.size = w.heap.size + 1)
    (ho : OwnL w2 (w1.heap.size + 1) v ls) (hr : Rd w2 w.heap.size 100) (hg : w1.grownBy w2 (some w.heap.size)) : DrawS2 w (w2.alloc (.cells #[.int .i64 bs, v] 25)) w.heap.size w2.heap.size 100 bs v ls := by
  have h12 := hg.size
  have o2 : OwnL w2 (w.heap.size + 1) v ls := by
    refine ⟨ho.1, ?_⟩
    rcases ho.2 with h | ⟨g, cap, cur, h1, h2, h3⟩
    · exact .inl h
    · exact .inr ⟨g, cap, cur, h1, by omega, h3⟩
  exact ⟨Nat.le_refl _, IsBlk.new _ _ _, by omega, o2.keep (below_bx _ _), hr.alloc _, (hb1.grown hg (by omega) (fun q hq => by injection hq with hq; omega)).alloc (by omega) _⟩

end Go.Proofs.YtcgbigbbonlgfaaDoor
