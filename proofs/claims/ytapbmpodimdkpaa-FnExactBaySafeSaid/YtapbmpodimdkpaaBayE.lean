/- Bays: conversion and comparison of the exact laws; the exact laws of BaySafe, BayMay, BayDo: the walks. -/
import Derived.Test.YtapbmpodimdkpaaBay3
namespace Go.Proofs.Ytapbmpodimdkpaa
open Go.ChangeShapes Go.WideShapes Go.ChangeAt Go.RowKit

theorem toBay_any (a b c e : Bool) (w : World) :
    Calls Try.prog 5 #[.agg #[.bool a, .bool b, .bool c, .bool e]] w fun x w' => x = .returned (.agg #[.bool a, .bool b, .bool c, .bool e]) ∧ Below w.heap.size w w' := by
  go_enter Try.func5, Try.ntmps5
  go_wp2
  refine bodyPost_ret (v := .agg #[.bool a, .bool b, .bool c, .bool e]) (by simp [results, Try.results5, go_sem]) rfl ⟨rfl, ?_⟩
  exact ((below_bx w _).alloc (by simp) _).alloc (by simp; omega) _
set_option maxRecDepth 100000 in
set_option maxHeartbeats 4000000 in
theorem exactBaySafe_walk (w : World) (a b c e : Bool) :
    Calls Try.prog 3 #[.agg #[.bool a, .bool b, .bool c, .bool e]] w fun x w' => x = .returned (.bool true) ∧ Below w.heap.size w w' := by
  have K0 := Lib.hid (IsBlk.new w 23 #[.bool a, .bool b, .bool c, .bool e])
  have a0 := below_bx w (.cells #[.bool a, .bool b, .bool c, .bool e] 23)
  go_enter Try.func3, Try.ntmps3
  go_wp2_with fail
  refine (toBay_any a b c e _).mono ?_
  rintro x w1 ⟨rfl, hb1⟩
  have a1 := Lib.hid (a0.trans (hb1.mono a0.size))
  have K1 := Lib.hid (K0.out.keep hb1)
  clear hb1 a0 K0
  go_wp2_with fail
  refine (specBaySafe_any a b c e _).mono ?_
  rintro x w2 ⟨rfl, hb2⟩
  have a2 := Lib.hid (a1.out.trans (hb2.mono a1.out.size))
  have K2 := Lib.hid (K1.out.keep hb2)
  obtain ⟨p0, p1, p2, p3, -⟩ := K2.out.four
  clear hb2 a1 K1
  go_wp2_with fail
  refine (toBay_any a b c e _).mono ?_
  rintro x w3 ⟨rfl, hb3⟩
  have a3 := Lib.hid (a2.out.trans (hb3.mono a2.out.size))
  clear hb3 a2 p0 p1 p2 p3 K2
  go_wp2_with fail
  refine (baySafe_any a b c e _).mono ?_
  rintro x w4 ⟨rfl, hb4⟩
  have a4 := Lib.hid (a3.out.trans (hb4.mono a3.out.size))
  clear hb4 a3
  go_wp2
  go_ret
  exact ⟨rfl, a4.out⟩

end Go.Proofs.Ytapbmpodimdkpaa
