/- The drawings of a network with a state, of two states, of a state with a list of lines. -/
import Derived.Test.YtciciidndjkdiaaDoorG2
import Derived.Test.YtciciidndjkdiaaDoorB5
import Derived.Test.YtciciidndjkdiaaDoorB6
namespace Go.Proofs.YtciciidndjkdiaaDoor
open Go.ChangeShapes Go.WideShapes Go.ChangeAt Go.RowKit

theorem OwnT.done {wx : World} {base q : Nat} {v : Value} {ts : List Bool} (h : OwnT wx base v ts) (hq : q < base) (u u' : Value) : OwnT ((wx.setCell ⟨q, 0, none⟩ u).setCell ⟨q, 1, none⟩ u') base v ts :=
  h.far (grown_then (grown_put _ _ _ _) (grown_put _ _ _ _)) (fun p hp e => by injection e with e; have := (h.lt p hp).1; omega)

set_option maxRecDepth 100000 in
set_option maxHeartbeats 2000000 in
theorem drawStateValid_any (A : Option Addr) (n c : Nat) (code : List Int) (w : World) (hr : RowB w A n code) (hnc : n ≤ c) (hc : c ≤ 9223372036854775807) :
    Calls Tryd.prog 16 #[.slice A n c] w fun e w' => ∃ bs A c ls v ts, e = .returned (.tuple #[.agg #[.int .i64 bs, .slice A ls.length c], v]) ∧ RowL w' A ls.length ls ∧ ls.length ≤ 12 ∧ OwnT w' w.heap.size v ts ∧ ts.length ≤ 13 ∧ Below w.heap.size w w' := by
  go_enter Tryd.func16, Tryd.ntmps16
  go_wp2_with fail
  refine (open_any A n c code _ (hr.alloc _) hnc hc).mono ?_
  rintro e w1 ⟨rfl, hb1, hr1, hs1⟩
  simp only [World.size_alloc] at hb1 hr1 hs1
  have HS := Lib.hid hs1
  clear hs1
  go_wp2_with fail
  refine (net_any (w.heap.size + 1) 6 0 (by omega) (by omega) _ (by rw [HS.out]; omega) hr1).mono ?_
  rintro e w2 ⟨bs, v, ls, rfl, ho, hl, hb0, hb9, hr2, hg2⟩
  obtain ⟨A', c', rfl, _⟩ := ho.row
  have S1 := Lib.hid (draw_start (bs := bs) hb1 rfl HS.out ho hr2 hg2)
  clear hr2 hg2 ho
  generalize hR : w.heap.size + 1 = R at *
  have HRR := Lib.hid hR
  clear hR
  go_upto_region 3 with fail
  obtain ⟨p0, p1, p2, p3⟩ := S1.out.var.two
  obtain ⟨q0, q1, q2, q3⟩ := S1.out.ret.two
  have hX1 : ¬ w.heap.size = w2.heap.size := by have := S1.out.hR; have := S1.out.hX; omega
  generalize w2.heap.size = X at *
  have D1 := Lib.hid S1.out.drew
  have HLm := Lib.hid hl
  go_region_with (first
    | (go_at_call 37; refine (state_any R bs A' ls.length c' 3 _ (by decide) (by decide) _ D1.out.rd.lt D1.out.rd HLm.out).mono ?_; rintro e w3 ⟨vs, ts, rfl, hO, hts, hr3, hg3⟩; have T1 := Lib.hid (D1.out.pick hr3 hg3); have TO := Lib.hid hO; clear hO; obtain ⟨p0, p1, p2, p3⟩ := T1.out.var.two; obtain ⟨q0, q1, q2, q3⟩ := T1.out.ret.two))
  all_goals go_wp2_with fail
  all_goals
    have T4 := T1.out.done (.int .i64 bs)
    obtain ⟨As, cs, rfl, _, _⟩ := TO.out.row
    refine bodyPost_ret (v := .tuple #[.agg #[.int .i64 bs, .slice A' ls.length c'], .slice As ts.length cs]) (by simp [results, Tryd.results16, go_sem, q0, q1]) rfl ⟨bs, A', c', ls, _, ts, rfl, T4.1, hl, (TO.out.done (by have := D1.out.hR; have := D1.out.hX; have := D1.out.var.lt; omega) _ _).more (by have := D1.out.hR; have := D1.out.hX; have := D1.out.var.lt; omega), hts, T4.2⟩

theorem draw_start2 {w w1 w2 : World} {bs : Int} {v : Value} {ls : List L3} (hb1 : Below w.heap.size w w1) (hs : w1.heap.size = w.heap.size + 1)
    (ho : OwnL w2 (w1.heap.size + 1) v ls) (hr : Rd w2 w.heap.size 100) (hg : w1.grownBy w2 (some w.heap.size)) : DrawS2 w (w2.alloc (.cells #[.int .i64 bs, v] 25)) w.heap.size w2.heap.size 100 bs v ls := by
  have h12 := hg.size
  have o2 : OwnL w2 (w.heap.size + 1) v ls := by
    refine ⟨ho.1, ?_⟩
    rcases ho.2 with h | ⟨g, cap, cur, h1, h2, h3⟩
    · exact .inl h
    · exact .inr ⟨g, cap, cur, h1, by omega, h3⟩
  exact ⟨Nat.le_refl _, IsBlk.new _ _ _, by omega, o2.keep (below_bx _ _), hr.alloc _, (hb1.grown hg (by omega) (fun q hq => by injection hq with hq; omega)).alloc (by omega) _⟩

end Go.Proofs.YtciciidndjkdiaaDoor
