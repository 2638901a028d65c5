/- Bays: conversion and comparison of the exact laws; the exact laws of BaySafe, BayMay, BayDo: the walks. -/
import Derived.Test.YtapbmpodimdkpaaDoorBay3
namespace Go.Proofs.YtapbmpodimdkpaaDoor
open Go.ChangeShapes Go.WideShapes Go.ChangeAt Go.RowKit

theorem toBay_any (a b c e : Bool) (w : World) :
    Calls Tryd.prog 29 #[.agg #[.bool a, .bool b, .bool c, .bool e]] w fun x w' => x = .returned (.agg #[.bool a, .bool b, .bool c, .bool e]) ∧ Below w.heap.size w w' := by
  go_enter Tryd.func29, Tryd.ntmps29
  go_wp2
  refine bodyPost_ret (v := .agg #[.bool a, .bool b, .bool c, .bool e]) (by simp [results, Tryd.results29, go_sem]) rfl ⟨rfl, ?_⟩
  exact ((below_bx w _).alloc (by simp) _).alloc (by simp; omega) _
theorem eqBay_same (a b c e : Bool) (w : World) :
    Calls Tryd.prog 30 #[.agg #[.bool a, .bool b, .bool c, .bool e], .agg #[.bool a, .bool b, .bool c, .bool e]] w fun x w' => x = .returned (.bool true) ∧ Below w.heap.size w w' := by
  go_enter Tryd.func30, Tryd.ntmps30
  go_wp2
  go_ret
  exact ⟨rfl, (below_bx w _).alloc (by simp) _⟩

set_option maxRecDepth 100000 in
set_option maxHeartbeats 4000000 in
theorem exactBayMay_walk (w : World) (a b c e : Bool) (d : Int) (hT : MustTab w) :
    Calls Tryd.prog 8 #[.agg #[.bool a, .bool b, .bool c, .bool e], .int .i64 d] w fun x w' => x = .returned (.bool true) ∧ Below w.heap.size w w' := by
  have HT := Lib.hid hT
  have K0 := Lib.hid (IsBlk.new w 44 #[.bool a, .bool b, .bool c, .bool e])
  have a0 := below_bx w (.cells #[.bool a, .bool b, .bool c, .bool e] 44)
  clear hT
  go_enter Tryd.func8, Tryd.ntmps8
  go_wp2_with fail
  refine (toBay_any a b c e _).mono ?_
  rintro x w1 ⟨rfl, hb1⟩
  have a1 := Lib.hid (a0.trans (hb1.mono a0.size))
  have K1 := Lib.hid (K0.out.keep hb1)
  clear hb1 a0 K0
  go_wp2_with fail
  refine (specBayMay_any a b c e d _).mono ?_
  rintro x w2 ⟨rfl, hb2⟩
  have a2 := Lib.hid (a1.out.trans (hb2.mono a1.out.size))
  have K2 := Lib.hid (K1.out.keep hb2)
  obtain ⟨p0, p1, p2, p3, -⟩ := K2.out.four
  clear hb2 a1 K1
  go_wp2_with fail
  refine (toBay_any a b c e _).mono ?_
  rintro x w3 ⟨rfl, hb3⟩
  have a3 := Lib.hid (a2.out.trans (hb3.mono a2.out.size))
  clear hb3 a2 p0 p1 p2 p3 K2
  go_wp2_with fail
  refine (bayMay_any a b c e d _ (HT.out.keep a3.out)).mono ?_
  rintro x w4 ⟨rfl, hb4⟩
  have a4 := Lib.hid (a3.out.trans (hb4.mono a3.out.size))
  clear hb4 a3
  go_wp2
  go_ret
  exact ⟨rfl, a4.out⟩

set_option maxRecDepth 100000 in
set_option maxHeartbeats 4000000 in
theorem exactBayDo_walk (w : World) (a b c e : Bool) (d : Int) (hT : MustTab w) :
    Calls Tryd.prog 9 #[.agg #[.bool a, .bool b, .bool c, .bool e], .int .i64 d] w fun x w' => x = .returned (.bool true) ∧ Below w.heap.size w w' := by
  have HT := Lib.hid hT
  have K0 := Lib.hid (IsBlk.new w 44 #[.bool a, .bool b, .bool c, .bool e])
  have a0 := below_bx w (.cells #[.bool a, .bool b, .bool c, .bool e] 44)
  clear hT
  go_enter Tryd.func9, Tryd.ntmps9
  go_wp2_with fail
  refine (toBay_any a b c e _).mono ?_
  rintro x w1 ⟨rfl, hb1⟩
  have a1 := Lib.hid (a0.trans (hb1.mono a0.size))
  have K1 := Lib.hid (K0.out.keep hb1)
  clear hb1 a0 K0
  go_wp2_with fail
  refine (specBayDo_any a b c e d _).mono ?_
  rintro x w2 ⟨rfl, hb2⟩
  have a2 := Lib.hid (a1.out.trans (hb2.mono a1.out.size))
  have K2 := Lib.hid (K1.out.keep hb2)
  generalize hy : doF (a, b, c, e) d = y
  have HY := Lib.hid hy
  obtain ⟨y0, y1, y2, y3⟩ := y
  dsimp only [vB]
  have K2' := Lib.hid (K2.out.alloc (.cells #[.bool y0, .bool y1, .bool y2, .bool y3] 24))
  have Y2 := Lib.hid (IsBlk.new w2 24 #[.bool y0, .bool y1, .bool y2, .bool y3])
  have a2' := Lib.hid (a2.out.alloc a2.out.size (.cells #[.bool y0, .bool y1, .bool y2, .bool y3] 24))
  obtain ⟨p0, p1, p2, p3, -⟩ := K2'.out.four
  clear hb2 a1 K1 hy a2 K2
  go_wp2_with fail
  refine (toBay_any a b c e _).mono ?_
  rintro x w3 ⟨rfl, hb3⟩
  have a3 := Lib.hid (a2'.out.trans (hb3.mono a2'.out.size))
  have Y3 := Lib.hid (Y2.out.keep hb3)
  clear hb3 a2' p0 p1 p2 p3 K2' Y2
  go_wp2_with fail
  refine (bayDo_any a b c e d _ (HT.out.keep a3.out)).mono ?_
  rintro x w4 ⟨rfl, hb4⟩
  have a4 := Lib.hid (a3.out.trans (hb4.mono a3.out.size))
  rw [HY.out]
  dsimp only [vB]
  have Y4 := Lib.hid ((Y3.out.keep hb4).alloc (.cells #[.bool y0, .bool y1, .bool y2, .bool y3] 24))
  have Z4 := Lib.hid (IsBlk.new w4 24 #[.bool y0, .bool y1, .bool y2, .bool y3])
  have a4' := Lib.hid (a4.out.alloc a4.out.size (.cells #[.bool y0, .bool y1, .bool y2, .bool y3] 24))
  obtain ⟨p0, p1, p2, p3, -⟩ := Y4.out.four
  obtain ⟨q0, q1, q2, q3, -⟩ := Z4.out.four
  clear hb4 a3 Y3 a4
  go_wp2_with fail
  refine (eqBay_same y0 y1 y2 y3 _).mono ?_
  rintro x w5 ⟨rfl, hb5⟩
  have a5 := Lib.hid (a4'.out.trans (hb5.mono a4'.out.size))
  clear hb5 p0 p1 p2 p3 q0 q1 q2 q3
  go_wp2
  go_ret
  exact ⟨rfl, a5.out⟩
end Go.Proofs.YtapbmpodimdkpaaDoor
