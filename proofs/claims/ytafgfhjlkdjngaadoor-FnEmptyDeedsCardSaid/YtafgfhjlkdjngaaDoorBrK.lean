/- Busbars: a drawing (written by program). -/
import Derived.Test.YtafgfhjlkdjngaaDoorBrH
namespace Go.Proofs.YtafgfhjlkdjngaaDoor
open Go.ChangeShapes Go.WideShapes Go.ChangeAt Go.RowKit

set_option maxRecDepth 100000 in
set_option maxHeartbeats 8000000 in
theorem drawEmptyDeeds_any (A : Option Addr) (n c : Nat) (code : List Int) (w : World) (hr : RowB w A n code) (hnc : n ≤ c) (hc : c ≤ 9223372036854775807) :
    Calls Tryd.prog 53 #[.slice A n c] w fun x w' => ∃ A n c ss t d, x = .returned (.tuple #[.agg #[.slice A n c, .bool t], .int .i64 d]) ∧ 0 ≤ d ∧ d ≤ 4 ∧ DrawnR w w' A n c ss := by
  have K0 := Lib.hid (IsBlk.new w 25 #[.slice none 0 0, .bool false])
  have a0 := below_bx w (.cells #[.slice none 0 0, .bool false] 25)
  go_enter Tryd.func53, Tryd.ntmps53
  go_wp2_with fail
  refine (open_any A n c code _ (hr.allocR _) hnc hc).mono ?_
  rintro x w1 ⟨rfl, hb1, hr1, hs1⟩
  have K1 := Lib.hid (K0.out.keep hb1)
  have a1 := Lib.hid (a0.trans (hb1.mono a0.size))
  simp only [World.size_alloc] at hr1 hs1
  clear hr hb1 a0 K0
  go_wp2_with fail
  refine (l20Bars_any (w.heap.size + 1) 9 0 (by decide) (by decide) _ hr1).mono ?_
  rintro x w2 ⟨A1, n1, c1, ss, t, rfl, hl, hn1, hn7, hO, hr2, hg2⟩
  have hsz : w.heap.size + 2 ≤ w1.heap.size := by omega
  have hs2 := hg2.size
  have S2 := Lib.hid (show DbSt w (w2.alloc (.cells #[.slice A1 n1 c1, .bool t] 25)) w2.heap.size 30 A1 n1 c1 ss t from
    ⟨OwnI.alloc (OwnI.moreR hO hsz) _, hr2.alloc _, (a1.out.grown hg2 a1.out.size (fun k e => by injection e with e; omega)).alloc (a1.out.grown hg2 a1.out.size (fun k e => by injection e with e; omega)).size _, (K1.out.farG hg2 (fun e => by injection e with e; omega)).alloc _, IsBlk.new w2 _ _, by omega⟩)
  clear hr1 hr2 hg2 K1 a1 hO hs1 hs2 hsz
  go_upto_region 3 with fail
  generalize w2.heap.size = X at *
  generalize w2.alloc (.cells #[.slice A1 n1 c1, .bool t] 25) = w3 at *
  have hn7' : (n1 : Int) ≤ 7 := by omega
  have hn1' : (1 : Int) ≤ (n1 : Int) := by omega
  have HL := Lib.hid hl
  clear hl
  have S3 := Lib.hid S2.out.drew
  obtain ⟨p0, p1, -⟩ := S3.out.var.two
  obtain ⟨r0, r1, s0, s1⟩ := S3.out.ret.two
  go_region_with (first
    | (go_at_call 58; refine (pick_any (w.heap.size + 1) 9 (30 + 1) (by decide) (by decide) _ S4.out.rd).mono ?_; rintro x w5 ⟨v5, rfl, hl5, hu5, _, hr5, hg5⟩; have hu5' : v5 < 9 := hu5 (by decide); have S5 := Lib.hid (S4.out.pick hr5 hg5); clear hr5 hg5 hu5; obtain ⟨p05, p15, -⟩ := S5.out.var.two; obtain ⟨r05, r15, s05, s15⟩ := S5.out.ret.two)
    | (go_at_call 58; refine (pick_any (w.heap.size + 1) 2 (30) (by decide) (by decide) _ S3.out.rd).mono ?_; rintro x w4 ⟨v4, rfl, hl4, hu4, _, hr4, hg4⟩; have hu4' : v4 < 2 := hu4 (by decide); have S4 := Lib.hid (S3.out.pick hr4 hg4); clear hr4 hg4 hu4; obtain ⟨p04, p14, -⟩ := S4.out.var.two; obtain ⟨r04, r14, s04, s14⟩ := S4.out.ret.two))
  all_goals go_wp2
  all_goals have hq0 : IntKind.i64.wrap (IntKind.i64.wrap (1 + v4) + IntKind.i64.wrap (v5.tdiv 8)) = 1 + v4 + v5 / 8 := by rw [Int.tdiv_eq_ediv_of_nonneg hl5, IntWalk.i64_in (1 + v4) (by omega), IntWalk.i64_in (v5 / 8) (by omega), IntWalk.i64_in (1 + v4 + v5 / 8) (by omega)]
  all_goals refine bodyPost_ret (v := .tuple #[.agg #[.slice A1 n1 c1, .bool t], .int .i64 (1 + v4 + v5 / 8)]) (by simp [results, Tryd.results53, go_sem, r05, r15, hq0]) rfl ⟨A1, n1, c1, ss, t, _, rfl, by omega, by omega, S5.out.done _ _ HL.out hn1 hn7⟩
end Go.Proofs.YtafgfhjlkdjngaaDoor
