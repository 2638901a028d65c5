/- The drawings of FnLineFlow, FnFeedFlow, FnOverloads and FnNetGood. -/
import Derived.Test.YtbhlkcnkijihcaaDoorZ3
namespace Go.Proofs.YtbhlkcnkijihcaaDoor
open Go.ChangeShapes Go.WideShapes Go.ChangeAt Go.RowKit

set_option maxRecDepth 100000 in
set_option maxHeartbeats 1000000 in
theorem drawLineFlow_any (A : Option Addr) (n c : Nat) (code : List Int) (w : World) (hr : RowB w A n code) (hnc : n ≤ c) (hc : c ≤ 9223372036854775807) :
    Calls Tryd.prog 33 #[.slice A n c] w (Drawn4 w) := by
  go_enter Tryd.func33, Tryd.ntmps33
  go_wp2_with fail
  refine (drawBelowLineB_any A n c code _ (hr.alloc _) hnc hc).mono ?_
  rintro e w2 ⟨bs, A', c', ls, As, cs, ts, Au, cu, us, bus, ⟨rfl, ho, hl, hb0, hb9, hO, hts, hU, hus⟩, hb2⟩
  obtain ⟨q0, q1, q2, q3⟩ := ((IsBlk.new w 25 #[.int .i64 0, .slice none 0 0]).keep hb2).two
  simp only [World.size_alloc] at ho hO hU
  have HB := Lib.hid ((below_bx w (.cells #[.int .i64 0, .slice none 0 0] 25)).trans (hb2.mono (by simp)))
  have HL := Lib.hid ho
  have HO := Lib.hid hO
  have HU := Lib.hid hU
  clear ho hO hU hb2 hr
  go_wp2_with fail
  exact bodyPost_ret (v := .tuple #[.agg #[.int .i64 bs, .slice A' ls.length c'], .slice As ts.length cs, .slice Au us.length cu, .int .i64 bus]) (by simp [results, Tryd.results33, go_sem, q0, q1]) rfl ⟨bs, A', c', ls, As, cs, ts, Au, cu, us, bus, rfl, (HL.out.far1 (by omega) _ _).rowL, hl, hb0, hb9, (HO.out.far1 (by omega) _ _).rowT, hts, (HU.out.far1 (by omega) _ _).1, hus, (HB.out.setCell (Nat.le_refl _) _).setCell (Nat.le_refl _) _⟩

set_option maxRecDepth 100000 in
set_option maxHeartbeats 1000000 in
theorem drawOverloads_any (A : Option Addr) (n c : Nat) (code : List Int) (w : World) (hr : RowB w A n code) (hnc : n ≤ c) (hc : c ≤ 9223372036854775807) :
    Calls Tryd.prog 40 #[.slice A n c] w (Drawn3 w) := by
  go_enter Tryd.func40, Tryd.ntmps40
  go_wp2_with fail
  refine (open_any A n c code _ (hr.alloc _) hnc hc).mono ?_
  rintro e w1 ⟨rfl, hb1, hr1, hs1⟩
  simp only [World.size_alloc] at hb1 hr1 hs1
  have k1 : IsBlk w1 w.heap.size 25 #[.int .i64 0, .slice none 0 0] := (IsBlk.new w 25 #[.int .i64 0, .slice none 0 0]).below hb1 (by omega)
  have HB := Lib.hid hb1
  have HS := Lib.hid (show w.heap.size + 1 + 1 ≤ w1.heap.size by omega)
  clear hb1 hs1 hr
  go_wp2_with fail
  refine (radialDraw_any (w.heap.size + 1) 9 0 (by decide) (by decide) _ (by have := HS.out; omega) hr1).mono ?_
  rintro e w2 ⟨bs, A', c', ls, As, cs, ts, Au, cu, us, ⟨rfl, ho, hl, hb0, hb9, hO, hts, hU, hus⟩, hr2, hg2⟩
  have S := Lib.hid (stored3 HB.out HS.out ho hO hU hg2 (.int .i64 bs) (.slice A' ls.length c'))
  obtain ⟨q0, q1, q2, q3⟩ := (show IsBlk w2 w.heap.size 25 _ from (hg2.block _ k1.lt (by simp)).trans k1).two
  clear k1 ho hO hU hr2 hg2 hr1
  go_wp2_with fail
  exact bodyPost_ret (v := .tuple #[.agg #[.int .i64 bs, .slice A' ls.length c'], .slice As ts.length cs, .slice Au us.length cu]) (by simp [results, Tryd.results40, go_sem, q0, q1]) rfl ⟨bs, A', c', ls, As, cs, ts, Au, cu, us, rfl, S.out.1, hl, hb0, hb9, S.out.2.1, hts, S.out.2.2.1, hus, S.out.2.2.2⟩

set_option maxRecDepth 100000 in
set_option maxHeartbeats 1000000 in
theorem drawNetGood_any (A : Option Addr) (n c : Nat) (code : List Int) (w : World) (hr : RowB w A n code) (hnc : n ≤ c) (hc : c ≤ 9223372036854775807) :
    Calls Tryd.prog 44 #[.slice A n c] w (Drawn3 w) := by
  go_enter Tryd.func44, Tryd.ntmps44
  go_wp2_with fail
  refine (open_any A n c code _ (hr.alloc _) hnc hc).mono ?_
  rintro e w1 ⟨rfl, hb1, hr1, hs1⟩
  simp only [World.size_alloc] at hb1 hr1 hs1
  have k1 : IsBlk w1 w.heap.size 25 #[.int .i64 0, .slice none 0 0] := (IsBlk.new w 25 #[.int .i64 0, .slice none 0 0]).below hb1 (by omega)
  have HB := Lib.hid hb1
  have HS := Lib.hid (show w.heap.size + 1 + 1 ≤ w1.heap.size by omega)
  clear hb1 hs1 hr
  go_wp2_with fail
  refine (radialDraw_any (w.heap.size + 1) 6 0 (by decide) (by decide) _ (by have := HS.out; omega) hr1).mono ?_
  rintro e w2 ⟨bs, A', c', ls, As, cs, ts, Au, cu, us, ⟨rfl, ho, hl, hb0, hb9, hO, hts, hU, hus⟩, hr2, hg2⟩
  have S := Lib.hid (stored3 HB.out HS.out ho hO hU hg2 (.int .i64 bs) (.slice A' ls.length c'))
  obtain ⟨q0, q1, q2, q3⟩ := (show IsBlk w2 w.heap.size 25 _ from (hg2.block _ k1.lt (by simp)).trans k1).two
  clear k1 ho hO hU hr2 hg2 hr1
  go_wp2_with fail
  exact bodyPost_ret (v := .tuple #[.agg #[.int .i64 bs, .slice A' ls.length c'], .slice As ts.length cs, .slice Au us.length cu]) (by simp [results, Tryd.results44, go_sem, q0, q1]) rfl ⟨bs, A', c', ls, As, cs, ts, Au, cu, us, rfl, S.out.1, hl, hb0, hb9, S.out.2.1, hts, S.out.2.2.1, hus, S.out.2.2.2⟩

set_option maxRecDepth 100000 in
set_option maxHeartbeats 2000000 in
theorem drawFeedFlow_any (A : Option Addr) (n c : Nat) (code : List Int) (w : World) (hr : RowB w A n code) (hnc : n ≤ c) (hc : c ≤ 9223372036854775807) :
    Calls Tryd.prog 38 #[.slice A n c] w (Drawn4 w) := by
  go_enter Tryd.func38, Tryd.ntmps38
  go_wp2_with fail
  refine (open_any A n c code _ (hr.alloc _) hnc hc).mono ?_
  rintro e w1 ⟨rfl, hb1, hr1, hs1⟩
  simp only [World.size_alloc] at hb1 hr1 hs1
  have HS := Lib.hid hs1
  clear hs1
  go_wp2_with fail
  refine (radialBus_any (w.heap.size + 1) 0 (by decide) _ (by rw [HS.out]; omega) hr1).mono ?_
  rintro e w2 ⟨bs, A', c', ls, As, cs, ts, Au, cu, us, bus, ⟨rfl, ho, hl, hb0, hb9, hO, hts, hU, hus⟩, hr2, hg2⟩
  have S1 := Lib.hid (draw_startS (bs := bs) hb1 rfl HS.out ho hr2 hg2)
  have O1 := Lib.hid (show OwnT (w2.alloc (.cells #[.int .i64 bs, .slice A' ls.length c'] 25)) (w.heap.size + 1 + 1) (.slice As ts.length cs) ts from (hO.more (by rw [HS.out]; omega)).keep (below_bx _ _))
  have U1 := Lib.hid (show RowUB (w2.alloc (.cells #[.int .i64 bs, .slice A' ls.length c'] 25)) (w.heap.size + 1 + 1) Au us.length us from (hU.more (by rw [HS.out]; omega)).keep (below_bx _ _))
  clear hr2 hg2 ho hO hU hr hr1 hb1
  generalize hR : w.heap.size + 1 = R at *
  have HRR := Lib.hid hR
  clear hR
  have hX1 : ¬ w.heap.size = w2.heap.size := by have := S1.out.hR; have := S1.out.hX; omega
  have hRw := S1.out.hR
  go_upto_region 3 with fail
  generalize w2.heap.size = X at *
  generalize hw3 : w2.alloc (.cells #[.int .i64 bs, .slice A' ls.length c'] 25) = w3 at *
  clear hw3 HS
  go_wp2_with fail
  refine (pick_any R 2 _ (by decide) (by decide) _ S1.out.rd).mono ?_
  rintro e w4 ⟨pv, rfl, _, _, _, hr4, hg4⟩
  have T1 := Lib.hid (S1.out.pick hr4 hg4)
  have O4 := Lib.hid (O1.out.pick hg4 (Nat.lt_succ_self R))
  have U4 := Lib.hid (U1.out.pick hg4 (Nat.lt_succ_self R))
  clear S1 O1 U1 hr4 hg4
  obtain ⟨p0, p1, p2, p3⟩ := T1.out.var.two
  obtain ⟨q0, q1, q2, q3⟩ := T1.out.ret.two
  have T4 := Lib.hid (T1.out.done (.int .i64 bs))
  by_cases hpv : pv = 0
  · subst hpv
    go_wp2_with fail
    exact bodyPost_ret (v := .tuple #[.agg #[.int .i64 bs, .slice A' ls.length c'], .slice As ts.length cs, .slice Au us.length cu, .int .i64 0]) (by simp [results, Tryd.results38, go_sem, q0, q1]) rfl ⟨bs, A', c', ls, As, cs, ts, Au, cu, us, _, rfl, T4.out.1, hl, hb0, hb9, (O4.out.far1 (by omega) _ _).rowT, hts, (U4.out.far1 (by omega) _ _).1, hus, T4.out.2⟩
  · go_wp2_with fail
    exact bodyPost_ret (v := .tuple #[.agg #[.int .i64 bs, .slice A' ls.length c'], .slice As ts.length cs, .slice Au us.length cu, .int .i64 bus]) (by simp [results, Tryd.results38, go_sem, q0, q1]) rfl ⟨bs, A', c', ls, As, cs, ts, Au, cu, us, _, rfl, T4.out.1, hl, hb0, hb9, (O4.out.far1 (by omega) _ _).rowT, hts, (U4.out.far1 (by omega) _ _).1, hus, T4.out.2⟩
end Go.Proofs.YtbhlkcnkijihcaaDoor
