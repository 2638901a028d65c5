/- The drawings of FnBusesValid, FnIslandFeed and FnIslandLoad. -/
import Derived.Test.YtobbmnbkjeoheaaDoorY2
namespace Go.Proofs.YtobbmnbkjeoheaaDoor
open Go.ChangeShapes Go.WideShapes Go.ChangeAt Go.RowKit

set_option maxRecDepth 100000 in
set_option maxHeartbeats 1000000 in
theorem drawBusesValid_any (A : Option Addr) (n c : Nat) (code : List Int) (w : World) (hr : RowB w A n code) (hnc : n ≤ c) (hc : c ≤ 9223372036854775807) :
    Calls Tryd.prog 8 #[.slice A n c] w fun e w' => ∃ bs A c ls u us, e = .returned (.tuple #[.agg #[.int .i64 bs, .slice A ls.length c], u]) ∧ RowL w' A ls.length ls ∧ ls.length ≤ 12 ∧ -1 ≤ bs ∧ bs ≤ 9 ∧ OwnU w' w.heap.size u us ∧ us.length ≤ 10 ∧ Below w.heap.size w w' := by
  go_enter Tryd.func8, Tryd.ntmps8
  go_wp2_with fail
  refine (open_any A n c code _ (hr.alloc _) hnc hc).mono ?_
  rintro e w1 ⟨rfl, hb1, hr1, hs1⟩
  simp only [World.size_alloc] at hb1 hr1 hs1
  have HS := Lib.hid hs1
  clear hs1
  go_wp2_with fail
  refine (net_any (w.heap.size + 1) 6 0 (by decide) (by decide) _ (by rw [HS.out]; omega) hr1).mono ?_
  rintro e w2 ⟨bs, v, ls, rfl, ho, hl, hb0, hb9, hr2, hg2⟩
  obtain ⟨A', c', rfl, _⟩ := ho.row
  have S1 := Lib.hid (draw_startS (bs := bs) hb1 rfl HS.out ho hr2 hg2)
  clear hr2 hg2 ho hr hr1 hb1
  generalize hR : w.heap.size + 1 = R at *
  have HRR := Lib.hid hR
  clear hR
  have hX1 : ¬ w.heap.size = w2.heap.size := by have := S1.out.hR; have := S1.out.hX; omega
  have hRw := S1.out.hR
  go_upto_region 3 with fail
  generalize w2.heap.size = X at *
  obtain ⟨p0, p1, p2, p3⟩ := S1.out.var.two
  obtain ⟨q0, q1, q2, q3⟩ := S1.out.ret.two
  have D1 := Lib.hid S1.out.drew
  have HB0 := Lib.hid hb0
  have HB9 := Lib.hid hb9
  clear S1 HS
  go_region_with (first
    | (go_at_call 36; refine (buses_any R bs A' ls.length c' 2 _ (by decide) (by decide) HB0.out HB9.out _ D1.out.rd.lt D1.out.rd).mono ?_; rintro e w3 ⟨vu, us, rfl, hU, hus, hr3, hg3⟩; have T1 := Lib.hid (D1.out.pick hr3 hg3); have TU := Lib.hid hU; clear hU; obtain ⟨p0, p1, p2, p3⟩ := T1.out.var.two; obtain ⟨q0, q1, q2, q3⟩ := T1.out.ret.two))
  all_goals go_wp2_with fail
  all_goals
    have T4 := T1.out.done (.int .i64 bs)
    obtain ⟨Au, cu, rfl, _⟩ := TU.out.row
    refine bodyPost_ret (v := .tuple #[.agg #[.int .i64 bs, .slice A' ls.length c'], .slice Au us.length cu]) (by simp [results, Tryd.results8, go_sem, q0, q1]) rfl ⟨bs, A', c', ls, _, us, rfl, T4.1, hl, hb0, hb9, (TU.out.far1 (by have := D1.out.hX; have := D1.out.var.lt; omega) _ _).more (by have := D1.out.hX; have := D1.out.var.lt; omega), hus, T4.2⟩

theorem OwnL.far1 {wx : World} {base q : Nat} {v : Value} {ls : List L3} (h : OwnL wx base v ls) (hq : q < base) (u u' : Value) : OwnL ((wx.setCell ⟨q, 0, none⟩ u).setCell ⟨q, 1, none⟩ u') base v ls :=
  h.far (grown_then (grown_put _ _ _ _) (grown_put _ _ _ _)) (fun p hp e => by injection e with e; have := (World.ownsRow.lt h p hp).1; omega)
theorem OwnL.rowL {w : World} {base n c : Nat} {A : Option Addr} {ls : List L3} (h : OwnL w base (.slice A n c) ls) : RowL w A n ls := by
  obtain ⟨A', c', e, hr⟩ := h.row
  injection e with e1 e2
  subst e1 e2; exact hr
/-- The answer of such a drawing with a bus. -/
def PoweredBus (w : World) (e : Ending) (w' : World) : Prop := ∃ bs A c ls v ts u us bus, e = .returned (.tuple #[.agg #[.int .i64 bs, .slice A ls.length c], v, u, .int .i64 bus]) ∧ OwnL w' w.heap.size (.slice A ls.length c) ls ∧ ls.length ≤ 12 ∧ -1 ≤ bs ∧ bs ≤ 9 ∧ OwnT w' w.heap.size v ts ∧ ts.length ≤ 13 ∧ OwnU w' w.heap.size u us ∧ us.length ≤ 10 ∧ Below w.heap.size w w'

set_option maxRecDepth 100000 in
set_option maxHeartbeats 2000000 in
theorem drawIslandFeed_any (A : Option Addr) (n c : Nat) (code : List Int) (w : World) (hr : RowB w A n code) (hnc : n ≤ c) (hc : c ≤ 9223372036854775807) :
    Calls Tryd.prog 13 #[.slice A n c] w (PoweredBus w) := by
  go_enter Tryd.func13, Tryd.ntmps13
  go_wp2_with fail
  refine (open_any A n c code _ (hr.alloc _) hnc hc).mono ?_
  rintro e w1 ⟨rfl, hb1, hr1, hs1⟩
  simp only [World.size_alloc] at hb1 hr1 hs1
  have HS := Lib.hid hs1
  clear hs1
  go_wp2_with fail
  refine (powered_any (w.heap.size + 1) 6 0 (by decide) (by decide) (by decide) _ (by rw [HS.out]; omega) hr1).mono ?_
  rintro e w2 ⟨bs, A', c', ls, v, ts, u, us, rfl, ho, hl, hb0, hb9, hO, hts, hU, hus, hr2, hg2⟩
  obtain ⟨As, cs, rfl, _, _⟩ := hO.row
  obtain ⟨Au, cu, rfl, _⟩ := hU.row
  have S1 := Lib.hid (draw_startS (bs := bs) hb1 rfl HS.out ho hr2 hg2)
  have O1 := Lib.hid (show OwnT (w2.alloc (.cells #[.int .i64 bs, .slice A' ls.length c'] 25)) (w.heap.size + 1 + 1) (.slice As ts.length cs) ts from (hO.more (by rw [HS.out]; omega)).keep (below_bx _ _))
  have U1 := Lib.hid (show OwnU (w2.alloc (.cells #[.int .i64 bs, .slice A' ls.length c'] 25)) (w.heap.size + 1 + 1) (.slice Au us.length cu) us from (hU.more (by rw [HS.out]; omega)).keep (below_bx _ _))
  clear hr2 hg2 ho hO hU hr hr1 hb1
  generalize hR : w.heap.size + 1 = R at *
  have HRR := Lib.hid hR
  clear hR
  have hX1 : ¬ w.heap.size = w2.heap.size := by have := S1.out.hR; have := S1.out.hX; omega
  have hRw := S1.out.hR
  go_upto_region 3 with fail
  generalize w2.heap.size = X at *
  generalize hw3 : w2.alloc (.cells #[.int .i64 bs, .slice A' ls.length c'] 25) = w3 at *
  obtain ⟨p0, p1, p2, p3⟩ := S1.out.var.two
  obtain ⟨q0, q1, q2, q3⟩ := S1.out.ret.two
  have D1 := Lib.hid S1.out.drew
  have DO := Lib.hid (show OwnT w3.drew (R + 1) (.slice As ts.length cs) ts from O1.out)
  have DU := Lib.hid (show OwnU w3.drew (R + 1) (.slice Au us.length cu) us from U1.out)
  have hk1 : IntKind.i64.wrap (bs + 1) = bs + 1 := IntWalk.i64_in _ (by omega)
  have hk2 := Lib.hid (show bs + 1 ≤ 1000000 by omega)
  have hlt := Lib.hid (Nat.lt_succ_self R)
  clear hw3 S1 O1 U1 HS
  go_region_with (first
    | (go_at_call 44; refine (pick_any R 9 _ (by decide) (by decide) _ T1.out.rd).mono ?_; rintro e w5 ⟨vb, rfl, hd0, hd1, _, hr5, hg5⟩; have T2 := Lib.hid (T1.out.pick hr5 hg5); have O5 := Lib.hid (O4.out.pick hg5 hlt.out); have U5 := Lib.hid (U4.out.pick hg5 hlt.out); obtain ⟨p0, p1, p2, p3⟩ := T2.out.var.two; obtain ⟨q0, q1, q2, q3⟩ := T2.out.ret.two)
    | (go_at_call 44; refine (pick_any R _ _ (by decide) hk2.out _ D1.out.rd).mono ?_; rintro e w4 ⟨va, rfl, he0, he1, _, hr4, hg4⟩; have T1 := Lib.hid (D1.out.pick hr4 hg4); have O4 := Lib.hid (DO.out.pick hg4 hlt.out); have U4 := Lib.hid (DU.out.pick hg4 hlt.out); obtain ⟨p0, p1, p2, p3⟩ := T1.out.var.two; obtain ⟨q0, q1, q2, q3⟩ := T1.out.ret.two))
  all_goals clear hk1
  all_goals go_wp2_with fail
  all_goals
    have T4 := T2.out.done (.int .i64 bs)
    refine bodyPost_ret (v := .tuple #[.agg #[.int .i64 bs, .slice A' ls.length c'], .slice As ts.length cs, .slice Au us.length cu, .int .i64 (IntKind.i64.wrap (va - IntKind.i64.wrap (vb.tdiv 8)))]) (by simp [results, Tryd.results13, go_sem, q0, q1]) rfl ⟨bs, A', c', ls, _, ts, _, us, _, rfl, (T2.out.own.far1 (by omega) _ _).more (by omega), hl, hb0, hb9, (O5.out.far1 (by omega) _ _).more (by omega), hts, (U5.out.far1 (by omega) _ _).more (by omega), hus, T4.2⟩

set_option maxRecDepth 100000 in
set_option maxHeartbeats 1000000 in
theorem drawIslandLoad_any (A : Option Addr) (n c : Nat) (code : List Int) (w : World) (hr : RowB w A n code) (hnc : n ≤ c) (hc : c ≤ 9223372036854775807) :
    Calls Tryd.prog 18 #[.slice A n c] w (PoweredBus w) := by
  go_enter Tryd.func18, Tryd.ntmps18
  go_wp2_with fail
  refine (drawIslandFeed_any A n c code _ (hr.alloc _) hnc hc).mono ?_
  rintro e w1 ⟨bs, A', c', ls, v, ts, u, us, bus, rfl, hl, hl2, hb0, hb9, hO, hts, hU, hus, hb1⟩
  obtain ⟨As, cs, rfl, _, _⟩ := hO.row
  obtain ⟨Au, cu, rfl, _⟩ := hU.row
  rw [World.size_alloc] at hb1 hO hU
  have k1 : IsBlk w1 w.heap.size 25 #[.int .i64 0, .slice none 0 0] := (IsBlk.new w 25 #[.int .i64 0, .slice none 0 0]).below hb1 (by omega)
  obtain ⟨q0, q1, q2, q3⟩ := k1.two
  have b1 : Below w.heap.size w w1 := (below_bx w _).trans (hb1.mono (by omega))
  have HL := Lib.hid (show OwnL w1 (w.heap.size + 1) (.slice A' ls.length c') ls by have := hl; rw [World.size_alloc] at this; exact this)
  have HT := Lib.hid hO
  have HU := Lib.hid hU
  clear k1 hl hr hO hU
  go_wp2_with fail
  exact bodyPost_ret (v := .tuple #[.agg #[.int .i64 bs, .slice A' ls.length c'], .slice As ts.length cs, .slice Au us.length cu, .int .i64 bus]) (by simp [results, Tryd.results18, go_sem, q0, q1]) rfl
    ⟨bs, A', c', ls, _, ts, _, us, bus, rfl, (HL.out.far1 (by omega) _ _).more (by omega), hl2, hb0, hb9, (HT.out.far1 (by omega) _ _).more (by omega), hts, (HU.out.far1 (by omega) _ _).more (by omega), hus, (b1.setCell (Nat.le_refl _) _).setCell (Nat.le_refl _) _⟩
end Go.Proofs.YtobbmnbkjeoheaaDoor
