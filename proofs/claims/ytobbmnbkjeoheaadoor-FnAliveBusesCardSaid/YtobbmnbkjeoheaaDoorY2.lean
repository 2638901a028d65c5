/- The drawing of a network, a state and buses beside a reader; and what draws by it. -/
import Derived.Test.YtobbmnbkjeoheaaDoorK2
import Derived.Test.YtobbmnbkjeoheaaDoorY1
namespace Go.Proofs.YtobbmnbkjeoheaaDoor
open Go.ChangeShapes Go.WideShapes Go.ChangeAt Go.RowKit

theorem OwnU.far1 {wx : World} {base q : Nat} {v : Value} {us : List TU} (h : OwnU wx base v us) (hq : q < base) (u u' : Value) : OwnU ((wx.setCell ⟨q, 0, none⟩ u).setCell ⟨q, 1, none⟩ u') base v us :=
  h.far (grown_then (grown_put _ _ _ _) (grown_put _ _ _ _)) (fun p hp e => by injection e with e; have := (h.lt p hp).1; omega)
theorem OwnU.pick {w w' : World} {base : Nat} {v : Value} {us : List TU} {R : Nat} (h : OwnU w base v us) (hg : w.grownBy w' (some R)) (hR : R < base) : OwnU w' base v us :=
  h.far hg (fun q hq e => by injection e with e; have := (h.lt q hq).1; omega)

set_option maxRecDepth 100000 in
set_option maxHeartbeats 1000000 in
theorem powered_any (R : Nat) (n lim : Int) (hlim : lim ≤ 700000) (hn0 : 0 ≤ n) (hn : n ≤ 200) (w : World) (hR : R < w.heap.size) (hr : Rd w R lim) :
    Calls Tryd.prog 43 #[.pointer (some ⟨R, 0, none⟩), .int .i64 n] w fun e w' => ∃ bs A c ls v ts u us, e = .returned (.tuple #[.agg #[.int .i64 bs, .slice A ls.length c], v, u]) ∧ OwnL w' (w.heap.size + 1) (.slice A ls.length c) ls ∧ ls.length ≤ 12 ∧ -1 ≤ bs ∧ bs ≤ 9 ∧ OwnT w' (w.heap.size + 1) v ts ∧ ts.length ≤ 13 ∧ OwnU w' (w.heap.size + 1) u us ∧ us.length ≤ 10 ∧ Rd w' R (lim + 250) ∧ w.grownBy w' (some R) := by
  have hw : IntKind.i64.wrap (2 * n) = 2 * n := IntWalk.i64_in _ (by omega)
  go_enter Tryd.func43, Tryd.ntmps43
  go_wp2_with fail
  refine (switched_any R (2 * n) lim (by omega) (by omega) (by omega) _ (by simp; omega) (hr.alloc _)).mono ?_
  rintro e w2 ⟨bs, A', c', ls, v, ts, rfl, ho, hl, hb0, hb9, hO, hts, hr2, hg2⟩
  obtain ⟨As, cs, rfl, _, _⟩ := hO.row
  have S1 := Lib.hid (sw_start (bs := bs) hR ho hr2 hg2)
  have O1 := Lib.hid (show OwnT (w2.alloc (.cells #[.int .i64 bs, .slice A' ls.length c'] 25)) (w.heap.size + 1) (.slice As ts.length cs) ts from (hO.more (by simp)).keep (below_bx _ _))
  clear hr2 hg2 ho hO hr
  go_upto_region 2 with fail
  obtain ⟨p0, p1, p2, p3⟩ := S1.out.var.two
  obtain ⟨q0, q1, q2, q3⟩ := S1.out.ret.two
  have hX1 : ¬ w.heap.size = w2.heap.size := by have := S1.out.hX; omega
  generalize w2.heap.size = X at *
  have D1 := Lib.hid S1.out.drew
  have DO := Lib.hid (show OwnT (w2.alloc (.cells #[.int .i64 bs, .slice A' ls.length c'] 25)).drew (w.heap.size + 1) (.slice As ts.length cs) ts from O1.out)
  have HN1 := Lib.hid (show 2 * n ≤ 1000 by omega)
  have HL1 := Lib.hid (show lim + 200 ≤ 900000 by omega)
  have HB0 := Lib.hid hb0
  have HB9 := Lib.hid hb9
  have HRB := Lib.hid (show R < w.heap.size + 1 by omega)
  clear S1 O1
  go_region_with (first
    | (go_at_call 36; refine (buses_any R bs A' ls.length c' (2 * n) _ HL1.out HN1.out HB0.out HB9.out _ D1.out.rd.lt D1.out.rd).mono ?_; rintro e w3 ⟨vu, us, rfl, hU, hus, hr3, hg3⟩; have T1 := Lib.hid (D1.out.pick hr3 hg3); have TT := Lib.hid (DO.out.pick hg3 HRB.out); have TU := Lib.hid hU; clear hU; obtain ⟨p0, p1, p2, p3⟩ := T1.out.var.two; obtain ⟨q0, q1, q2, q3⟩ := T1.out.ret.two))
  all_goals go_wp2_with fail
  all_goals
    obtain ⟨o4, r4, g4⟩ := T1.out.done (.int .i64 bs) (.slice A' ls.length c')
    obtain ⟨Au, cu, rfl, _⟩ := TU.out.row
    refine bodyPost_ret (v := .tuple #[.agg #[.int .i64 bs, .slice A' ls.length c'], .slice As ts.length cs, .slice Au us.length cu]) (by simp [results, Tryd.results43, go_sem, q0, q1]) rfl ⟨bs, A', c', ls, _, ts, _, us, rfl, o4, hl, hb0, hb9, TT.out.far1 (by omega) _ _, hts, (TU.out.far1 (by have := D1.out.hX; have := D1.out.var.lt; omega) _ _).more (by have := D1.out.hX; have := D1.out.var.lt; omega), hus, r4.mono (by omega), g4⟩

/-- The answer of such a drawing without a bus. -/
def Powered (w : World) (e : Ending) (w' : World) : Prop := ∃ bs A c ls v ts u us, e = .returned (.tuple #[.agg #[.int .i64 bs, .slice A ls.length c], v, u]) ∧ RowL w' A ls.length ls ∧ ls.length ≤ 12 ∧ -1 ≤ bs ∧ bs ≤ 9 ∧ OwnT w' w.heap.size v ts ∧ ts.length ≤ 13 ∧ OwnU w' w.heap.size u us ∧ us.length ≤ 10 ∧ Below w.heap.size w w'
/-- The network is stored into the result; the buses are where they were. -/
theorem storedU {w w1 w2 : World} {u : Value} {us : List TU} (hs : w1.heap.size = w.heap.size + 1 + 1) (hU : OwnU w2 (w1.heap.size + 1) u us) (x y : Value) :
    OwnU ((w2.setCell ⟨w.heap.size, 0, none⟩ x).setCell ⟨w.heap.size, 1, none⟩ y) w.heap.size u us := (hU.far1 (by omega) _ _).more (by omega)

set_option maxRecDepth 100000 in
set_option maxHeartbeats 1000000 in
theorem drawAliveBuses_any (A : Option Addr) (n c : Nat) (code : List Int) (w : World) (hr : RowB w A n code) (hnc : n ≤ c) (hc : c ≤ 9223372036854775807) :
    Calls Tryd.prog 22 #[.slice A n c] w (Powered w) := by
  go_enter Tryd.func22, Tryd.ntmps22
  go_wp2_with fail
  refine (open_any A n c code _ (hr.alloc _) hnc hc).mono ?_
  rintro e w1 ⟨rfl, hb1, hr1, hs1⟩
  simp only [World.size_alloc] at hb1 hr1 hs1
  have HS := Lib.hid hs1
  clear hs1
  go_wp2_with fail
  refine (powered_any (w.heap.size + 1) 6 0 (by decide) (by decide) (by decide) _ (by rw [HS.out]; omega) hr1).mono ?_
  rintro e w2 ⟨bs, A', c', ls, v, ts, u, us, rfl, ho, hl, hb0, hb9, hO, hts, hU, hus, hr2, hg2⟩
  obtain ⟨As, cs, rfl, _, _⟩ := hO.row
  obtain ⟨Au, cu, rfl, _⟩ := hU.row
  have k1 : IsBlk w1 w.heap.size 25 #[.int .i64 0, .slice none 0 0] := (IsBlk.new w 25 #[.int .i64 0, .slice none 0 0]).below hb1 (by omega)
  have S := Lib.hid (stored (bs := bs) hb1 rfl HS.out ho hO hg2)
  have SU := Lib.hid (storedU HS.out hU (.int .i64 bs) (.slice A' ls.length c'))
  obtain ⟨q0, q1, q2, q3⟩ := (show IsBlk w2 w.heap.size 25 _ from (hg2.block _ k1.lt (by simp)).trans k1).two
  clear k1 ho hO hU hr2 hg2 hb1 hr1 hr
  go_wp2_with fail
  exact bodyPost_ret (v := .tuple #[.agg #[.int .i64 bs, .slice A' ls.length c'], .slice As ts.length cs, .slice Au us.length cu]) (by simp [results, Tryd.results22, go_sem, q0, q1]) rfl ⟨bs, A', c', ls, _, ts, _, us, rfl, S.out.1, hl, hb0, hb9, S.out.2.1, hts, SU.out, hus, S.out.2.2⟩

set_option maxRecDepth 100000 in
set_option maxHeartbeats 1000000 in
theorem drawServedLoad_any (A : Option Addr) (n c : Nat) (code : List Int) (w : World) (hr : RowB w A n code) (hnc : n ≤ c) (hc : c ≤ 9223372036854775807) :
    Calls Tryd.prog 31 #[.slice A n c] w (Powered w) := by
  go_enter Tryd.func31, Tryd.ntmps31
  go_wp2_with fail
  refine (open_any A n c code _ (hr.alloc _) hnc hc).mono ?_
  rintro e w1 ⟨rfl, hb1, hr1, hs1⟩
  simp only [World.size_alloc] at hb1 hr1 hs1
  have HS := Lib.hid hs1
  clear hs1
  go_wp2_with fail
  refine (powered_any (w.heap.size + 1) 6 0 (by decide) (by decide) (by decide) _ (by rw [HS.out]; omega) hr1).mono ?_
  rintro e w2 ⟨bs, A', c', ls, v, ts, u, us, rfl, ho, hl, hb0, hb9, hO, hts, hU, hus, hr2, hg2⟩
  obtain ⟨As, cs, rfl, _, _⟩ := hO.row
  obtain ⟨Au, cu, rfl, _⟩ := hU.row
  have k1 : IsBlk w1 w.heap.size 25 #[.int .i64 0, .slice none 0 0] := (IsBlk.new w 25 #[.int .i64 0, .slice none 0 0]).below hb1 (by omega)
  have S := Lib.hid (stored (bs := bs) hb1 rfl HS.out ho hO hg2)
  have SU := Lib.hid (storedU HS.out hU (.int .i64 bs) (.slice A' ls.length c'))
  obtain ⟨q0, q1, q2, q3⟩ := (show IsBlk w2 w.heap.size 25 _ from (hg2.block _ k1.lt (by simp)).trans k1).two
  clear k1 ho hO hU hr2 hg2 hb1 hr1 hr
  go_wp2_with fail
  exact bodyPost_ret (v := .tuple #[.agg #[.int .i64 bs, .slice A' ls.length c'], .slice As ts.length cs, .slice Au us.length cu]) (by simp [results, Tryd.results31, go_sem, q0, q1]) rfl ⟨bs, A', c', ls, _, ts, _, us, rfl, S.out.1, hl, hb0, hb9, S.out.2.1, hts, SU.out, hus, S.out.2.2⟩
end Go.Proofs.YtobbmnbkjeoheaaDoor
