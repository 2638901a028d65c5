/- What draws a network and a state: alone, with a bus. -/
import Derived.Test.YtlofhkhfomhdaaaDoorK1
namespace Go.Proofs.YtlofhkhfomhdaaaDoor
open Go.ChangeShapes Go.WideShapes Go.ChangeAt Go.RowKit

theorem draw_startS {w w1 w2 : World} {R : Nat} {lim bs : Int} {v : Value} {ls : List L3} (hb1 : Below (w.heap.size + 1) (w.alloc (.cells #[.int .i64 0, .slice none 0 0] 25)) w1) (hR : R = w.heap.size + 1) (hs : w1.heap.size = w.heap.size + 1 + 1)
    (ho : OwnL w2 (w1.heap.size + 1) v ls) (hr : Rd w2 R lim) (hg : w1.grownBy w2 (some R)) : DrawSt w (w2.alloc (.cells #[.int .i64 bs, v] 25)) R w2.heap.size lim bs v ls := by
  subst hR
  have h12 := hg.size
  have k1 : IsBlk w1 w.heap.size 25 #[.int .i64 0, .slice none 0 0] := (IsBlk.new w 25 #[.int .i64 0, .slice none 0 0]).below hb1 (by omega)
  have b1 : Below w.heap.size w w1 := (below_bx w _).trans (hb1.mono (by omega))
  exact ⟨IsBlk.alloc ((hg.block _ k1.lt (by simp)).trans k1) _, by omega, IsBlk.new _ _ _, by omega, (ho.more (by omega)).keep (below_bx _ _), hr.alloc _, (b1.grown hg (by omega) (fun q hq => by injection hq with hq; omega)).alloc (by omega) _⟩

/-- The answer of such a drawing without a bus. -/
def NetAndState (w : World) (e : Ending) (w' : World) : Prop := ∃ bs A c ls v ts, e = .returned (.tuple #[.agg #[.int .i64 bs, .slice A ls.length c], v]) ∧ RowL w' A ls.length ls ∧ ls.length ≤ 12 ∧ -1 ≤ bs ∧ bs ≤ 9 ∧ OwnT w' w.heap.size v ts ∧ ts.length ≤ 13 ∧ Below w.heap.size w w'

/-- The network is stored into the result. -/
theorem stored {w w1 w2 : World} {R : Nat} {A A' : Option Addr} {c c' : Nat} {ls : List L3} {bs : Int} {ts : List Bool} (hb1 : Below (w.heap.size + 1) (w.alloc (.cells #[.int .i64 0, .slice none 0 0] 25)) w1) (hR : R = w.heap.size + 1) (hs : w1.heap.size = w.heap.size + 1 + 1)
    (ho : OwnL w2 (w1.heap.size + 1) (.slice A ls.length c) ls) (hO : OwnT w2 (w1.heap.size + 1) (.slice A' ts.length c') ts) (hg : w1.grownBy w2 (some R)) :
    RowL ((w2.setCell ⟨w.heap.size, 0, none⟩ (.int .i64 bs)).setCell ⟨w.heap.size, 1, none⟩ (.slice A ls.length c)) A ls.length ls ∧ OwnT ((w2.setCell ⟨w.heap.size, 0, none⟩ (.int .i64 bs)).setCell ⟨w.heap.size, 1, none⟩ (.slice A ls.length c)) w.heap.size (.slice A' ts.length c') ts ∧ Below w.heap.size w ((w2.setCell ⟨w.heap.size, 0, none⟩ (.int .i64 bs)).setCell ⟨w.heap.size, 1, none⟩ (.slice A ls.length c)) := by
  subst hR
  have h12 := hg.size
  have b1 : Below w.heap.size w w1 := (below_bx w _).trans (hb1.mono (by omega))
  have b2 := b1.grown hg (by omega) (fun q hq => by injection hq with hq; omega)
  have g2 : w2.grownBy ((w2.setCell ⟨w.heap.size, 0, none⟩ (.int .i64 bs)).setCell ⟨w.heap.size, 1, none⟩ (.slice A ls.length c)) (some w.heap.size) := grown_then (grown_put _ _ _ _) (grown_put _ _ _ _)
  have o2 := ho.far g2 (fun q hq e => by injection e with e; have := (World.ownsRow.lt ho q hq).1; omega)
  refine ⟨?_, (hO.far1 (by omega) _ _).more (by omega), b2.grown g2 b2.size (fun q hq => by injection hq with hq; omega)⟩
  obtain ⟨A2, c2, e, hr⟩ := o2.row
  injection e with e1
  subst e1; exact hr

set_option maxRecDepth 100000 in
set_option maxHeartbeats 1000000 in
theorem drawIslandNumbers_any (A : Option Addr) (n c : Nat) (code : List Int) (w : World) (hr : RowB w A n code) (hnc : n ≤ c) (hc : c ≤ 9223372036854775807) :
    Calls Tryd.prog 18 #[.slice A n c] w (NetAndState w) := by
  go_enter Tryd.func18, Tryd.ntmps18
  go_wp2_with fail
  refine (open_any A n c code _ (hr.alloc _) hnc hc).mono ?_
  rintro e w1 ⟨rfl, hb1, hr1, hs1⟩
  simp only [World.size_alloc] at hb1 hr1 hs1
  have HS := Lib.hid hs1
  clear hs1
  go_wp2_with fail
  refine (switched_any (w.heap.size + 1) 6 0 (by decide) (by decide) (by decide) _ (by rw [HS.out]; omega) hr1).mono ?_
  rintro e w2 ⟨bs, A', c', ls, v, ts, rfl, ho, hl, hb0, hb9, hO, hts, hr2, hg2⟩
  obtain ⟨As, cs, rfl, _, _⟩ := hO.row
  have k1 : IsBlk w1 w.heap.size 25 #[.int .i64 0, .slice none 0 0] := (IsBlk.new w 25 #[.int .i64 0, .slice none 0 0]).below hb1 (by omega)
  have S := Lib.hid (stored (bs := bs) hb1 rfl HS.out ho hO hg2)
  obtain ⟨q0, q1, q2, q3⟩ := (show IsBlk w2 w.heap.size 25 _ from (hg2.block _ k1.lt (by simp)).trans k1).two
  clear k1 ho hO hr2 hg2 hb1 hr1 hr
  go_wp2_with fail
  exact bodyPost_ret (v := .tuple #[.agg #[.int .i64 bs, .slice A' ls.length c'], .slice As ts.length cs]) (by simp [results, Tryd.results18, go_sem, q0, q1]) rfl ⟨bs, A', c', ls, _, ts, rfl, S.out.1, hl, hb0, hb9, S.out.2.1, hts, S.out.2.2⟩

set_option maxRecDepth 100000 in
set_option maxHeartbeats 1000000 in
theorem drawIslandsOf_any (A : Option Addr) (n c : Nat) (code : List Int) (w : World) (hr : RowB w A n code) (hnc : n ≤ c) (hc : c ≤ 9223372036854775807) :
    Calls Tryd.prog 24 #[.slice A n c] w (NetAndState w) := by
  go_enter Tryd.func24, Tryd.ntmps24
  go_wp2_with fail
  refine (open_any A n c code _ (hr.alloc _) hnc hc).mono ?_
  rintro e w1 ⟨rfl, hb1, hr1, hs1⟩
  simp only [World.size_alloc] at hb1 hr1 hs1
  have HS := Lib.hid hs1
  clear hs1
  go_wp2_with fail
  refine (switched_any (w.heap.size + 1) 6 0 (by decide) (by decide) (by decide) _ (by rw [HS.out]; omega) hr1).mono ?_
  rintro e w2 ⟨bs, A', c', ls, v, ts, rfl, ho, hl, hb0, hb9, hO, hts, hr2, hg2⟩
  obtain ⟨As, cs, rfl, _, _⟩ := hO.row
  have k1 : IsBlk w1 w.heap.size 25 #[.int .i64 0, .slice none 0 0] := (IsBlk.new w 25 #[.int .i64 0, .slice none 0 0]).below hb1 (by omega)
  have S := Lib.hid (stored (bs := bs) hb1 rfl HS.out ho hO hg2)
  obtain ⟨q0, q1, q2, q3⟩ := (show IsBlk w2 w.heap.size 25 _ from (hg2.block _ k1.lt (by simp)).trans k1).two
  clear k1 ho hO hr2 hg2 hb1 hr1 hr
  go_wp2_with fail
  exact bodyPost_ret (v := .tuple #[.agg #[.int .i64 bs, .slice A' ls.length c'], .slice As ts.length cs]) (by simp [results, Tryd.results24, go_sem, q0, q1]) rfl ⟨bs, A', c', ls, _, ts, rfl, S.out.1, hl, hb0, hb9, S.out.2.1, hts, S.out.2.2⟩

set_option maxRecDepth 100000 in
set_option maxHeartbeats 1000000 in
theorem drawReached_any (A : Option Addr) (n c : Nat) (code : List Int) (w : World) (hr : RowB w A n code) (hnc : n ≤ c) (hc : c ≤ 9223372036854775807) :
    Calls Tryd.prog 11 #[.slice A n c] w fun e w' => ∃ bs A c ls v ts bus, e = .returned (.tuple #[.agg #[.int .i64 bs, .slice A ls.length c], v, .int .i64 bus]) ∧ RowL w' A ls.length ls ∧ ls.length ≤ 12 ∧ -1 ≤ bs ∧ bs ≤ 9 ∧ OwnT w' w.heap.size v ts ∧ ts.length ≤ 13 ∧ Below w.heap.size w w' := by
  go_enter Tryd.func11, Tryd.ntmps11
  go_wp2_with fail
  refine (open_any A n c code _ (hr.alloc _) hnc hc).mono ?_
  rintro e w1 ⟨rfl, hb1, hr1, hs1⟩
  simp only [World.size_alloc] at hb1 hr1 hs1
  have HS := Lib.hid hs1
  clear hs1
  go_wp2_with fail
  refine (switched_any (w.heap.size + 1) 6 0 (by decide) (by decide) (by decide) _ (by rw [HS.out]; omega) hr1).mono ?_
  rintro e w2 ⟨bs, A', c', ls, v, ts, rfl, ho, hl, hb0, hb9, hO, hts, hr2, hg2⟩
  obtain ⟨As, cs, rfl, _, _⟩ := hO.row
  have S1 := Lib.hid (draw_startS (bs := bs) hb1 rfl HS.out ho hr2 hg2)
  have O1 := Lib.hid (show OwnT (w2.alloc (.cells #[.int .i64 bs, .slice A' ls.length c'] 25)) (w.heap.size + 1 + 1) (.slice As ts.length cs) ts from (hO.more (by rw [HS.out]; omega)).keep (below_bx _ _))
  clear hr2 hg2 ho hO hr hr1 hb1
  generalize hR : w.heap.size + 1 = R at *
  have HRR := Lib.hid hR
  clear hR
  have hX1 : ¬ w.heap.size = w2.heap.size := by have := S1.out.hR; have := S1.out.hX; omega
  have hRw := S1.out.hR
  go_upto_region 3 with fail
  generalize w2.heap.size = X at *
  generalize hw3 : w2.alloc (.cells #[.int .i64 bs, .slice A' ls.length c'] 25) = w3 at *
  obtain ⟨p0, p1, p2, p3⟩ := S1.out.var.two
  obtain ⟨q0, q1, q2, q3⟩ := S1.out.ret.two
  have D1 := Lib.hid S1.out.drew
  have DO := Lib.hid (show OwnT w3.drew (R + 1) (.slice As ts.length cs) ts from O1.out)
  have hk1 : IntKind.i64.wrap (bs + 1) = bs + 1 := IntWalk.i64_in _ (by omega)
  have hk2 := Lib.hid (show bs + 1 ≤ 1000000 by omega)
  have hlt := Lib.hid (Nat.lt_succ_self R)
  clear hw3 S1 O1 HS
  go_region_with (first
    | (go_at_call 47; refine (pick_any R 9 _ (by decide) (by decide) _ T1.out.rd).mono ?_; rintro e w5 ⟨vb, rfl, hd0, hd1, _, hr5, hg5⟩; have T2 := Lib.hid (T1.out.pick hr5 hg5); have O5 := Lib.hid (O4.out.pick hg5 hlt.out); obtain ⟨p0, p1, p2, p3⟩ := T2.out.var.two; obtain ⟨q0, q1, q2, q3⟩ := T2.out.ret.two)
    | (go_at_call 47; refine (pick_any R _ _ (by decide) hk2.out _ D1.out.rd).mono ?_; rintro e w4 ⟨va, rfl, he0, he1, _, hr4, hg4⟩; have T1 := Lib.hid (D1.out.pick hr4 hg4); have O4 := Lib.hid (DO.out.pick hg4 hlt.out); obtain ⟨p0, p1, p2, p3⟩ := T1.out.var.two; obtain ⟨q0, q1, q2, q3⟩ := T1.out.ret.two))
  all_goals clear hk1
  all_goals go_wp2_with fail
  all_goals
    have T4 := T2.out.done (.int .i64 bs)
    refine bodyPost_ret (v := .tuple #[.agg #[.int .i64 bs, .slice A' ls.length c'], .slice As ts.length cs, .int .i64 (IntKind.i64.wrap (va - IntKind.i64.wrap (vb.tdiv 8)))]) (by simp [results, Tryd.results11, go_sem, q0, q1]) rfl ⟨bs, A', c', ls, _, ts, _, rfl, T4.1, hl, hb0, hb9, (O5.out.far1 (by omega) _ _).more (by omega), hts, T4.2⟩

end Go.Proofs.YtlofhkhfomhdaaaDoor
