/- Bays: the exact law of BayRun: the walk. -/
import Derived.Test.YtapbmpodimdkpaaDoorBayE
import Derived.Test.YtapbmpodimdkpaaDoorBCC
namespace Go.Proofs.YtapbmpodimdkpaaDoor
open Go.ChangeShapes Go.WideShapes Go.ChangeAt Go.RowKit

set_option maxRecDepth 100000 in
set_option maxHeartbeats 4000000 in
theorem exactBayRun_walk (w : World) (a b c e : Bool) (A : Option Addr) (n cc : Nat) (zs : List Int) (_hnc : n ≤ cc) (_hc : cc ≤ 9223372036854775807) (hr : RowZ w A n zs) (hT : MustTab w) :
    Calls Tryd.prog 10 #[.agg #[.bool a, .bool b, .bool c, .bool e], .slice A n cc] w fun x w' => x = .returned (.bool true) ∧ Below w.heap.size w w' := by
  have HT := Lib.hid hT
  have HR := Lib.hid hr
  have HL := Lib.hid hr.len
  have K0 := Lib.hid (IsBlk.new w 44 #[.bool a, .bool b, .bool c, .bool e])
  have a0 := below_bx w (.cells #[.bool a, .bool b, .bool c, .bool e] 44)
  clear hT hr
  by_cases hn : n ≤ 1048576
  rotate_left
  · have hbig : (1048576 : Int) < (n : Int) := by omega
    go_enter Tryd.func10, Tryd.ntmps10
    go_wp2
    go_ret
    exact ⟨rfl, a0⟩
  go_enter Tryd.func10, Tryd.ntmps10
  go_wp2_with fail
  refine (toBay_any a b c e _).mono ?_
  rintro x w1 ⟨rfl, hb1⟩
  have a1 := Lib.hid (a0.trans (hb1.mono a0.size))
  have K1 := Lib.hid (K0.out.keep hb1)
  clear hb1 a0 K0
  go_wp2_with fail
  refine (toIntS_any A n cc zs _ hn (HR.out.below a1.out)).mono ?_
  rintro x w2 ⟨rfl, hO, hb2, hs2⟩
  clear hs2
  have a2 := Lib.hid (a1.out.trans (hb2.mono a1.out.size))
  have K2 := Lib.hid (K1.out.keep hb2)
  have O2 := Lib.hid (OwnI.rowZ hO)
  clear hb2 a1 K1 hO
  go_wp2_with fail
  refine (specBayRun_any a b c e _ n n zs _ hn O2.out).mono ?_
  rintro x w3 ⟨rfl, hb3⟩
  have a3 := Lib.hid (a2.out.trans (hb3.mono a2.out.size))
  have K3 := Lib.hid (K2.out.keep hb3)
  generalize hy : runF (a, b, c, e) zs = y
  have HY := Lib.hid hy
  obtain ⟨⟨y0, y1, y2, y3⟩, m⟩ := y
  have hml : m ≤ n := by have h1 := runF_le zs (a, b, c, e); rw [hy] at h1; have h2 := HL.out; simp only at h1; omega
  dsimp only [vB]
  have K3' := Lib.hid (K3.out.alloc (.cells #[.bool y0, .bool y1, .bool y2, .bool y3] 24))
  have Y3 := Lib.hid (IsBlk.new w3 24 #[.bool y0, .bool y1, .bool y2, .bool y3])
  have a3' := Lib.hid (a3.out.alloc a3.out.size (.cells #[.bool y0, .bool y1, .bool y2, .bool y3] 24))
  clear hb3 a2 K2 hy a3 K3 O2
  go_wp2_with fail
  refine (toIntS_any A n cc zs _ hn (HR.out.below a3'.out)).mono ?_
  rintro x w4 ⟨rfl, hO, hb4, hs4⟩
  simp only [World.size_alloc] at hO
  clear hs4
  have a4 := Lib.hid (a3'.out.trans (hb4.mono a3'.out.size))
  have K4 := Lib.hid (K3'.out.keep hb4)
  have Y4 := Lib.hid (Y3.out.keep hb4)
  have O4 := Lib.hid hO
  obtain ⟨p0, p1, p2, p3, -⟩ := K4.out.four
  clear hb4 a3' K3' Y3 hO
  go_wp2_with fail
  refine (toBay_any a b c e _).mono ?_
  rintro x w5 ⟨rfl, hb5⟩
  have a5 := Lib.hid (a4.out.trans (hb5.mono a4.out.size))
  have Y5 := Lib.hid (Y4.out.keep hb5)
  have O5 := Lib.hid (OwnI.keep O4.out hb5)
  clear hb5 a4 Y4 O4 p0 p1 p2 p3 K4
  go_wp2_with fail
  refine (bayRun_any a b c e _ n n zs _ hn (OwnI.rowZ O5.out) (HT.out.keep a5.out)).mono ?_
  rintro x w6 ⟨rfl, hb6⟩
  have a6 := Lib.hid (a5.out.trans (hb6.mono a5.out.size))
  rw [HY.out]
  dsimp only [vB]
  have Y6 := Lib.hid ((Y5.out.keep hb6).alloc (.cells #[.bool y0, .bool y1, .bool y2, .bool y3] 24))
  have Z6 := Lib.hid (IsBlk.new w6 24 #[.bool y0, .bool y1, .bool y2, .bool y3])
  have O6 := Lib.hid (OwnI.alloc (OwnI.keep O5.out hb6) (.cells #[.bool y0, .bool y1, .bool y2, .bool y3] 24))
  have a6' := Lib.hid (a6.out.alloc a6.out.size (.cells #[.bool y0, .bool y1, .bool y2, .bool y3] 24))
  obtain ⟨p0, p1, p2, p3, -⟩ := Y6.out.four
  obtain ⟨q0, q1, q2, q3, -⟩ := Z6.out.four
  clear hb6 a5 Y5 a6 O5
  go_wp2_with fail
  refine (eqBay_same y0 y1 y2 y3 _).mono ?_
  rintro x w7 ⟨rfl, hb7⟩
  have a7 := Lib.hid (a6'.out.trans (hb7.mono a6'.out.size))
  have O7 := Lib.hid (OwnI.keep O6.out hb7)
  clear hb7 p0 p1 p2 p3 q0 q1 q2 q3 O6
  go_wp2_with fail
  refine (toIntS_any A n cc zs _ hn (HR.out.below a7.out)).mono ?_
  rintro x w8 ⟨rfl, hO, hb8, hs8⟩
  clear hs8
  have a8 := Lib.hid (a7.out.trans (hb8.mono a7.out.size))
  have O8 := Lib.hid (OwnI.keep O7.out hb8)
  have P8 := Lib.hid hO
  clear hb8 O7 hO
  go_wp2_with fail
  refine (eqIntS_own (by rw [HL.out]; exact hn) O8.out P8.out).mono ?_
  rintro x w9 ⟨rfl, hb9⟩
  have a9 := Lib.hid (a8.out.trans (hb9.mono a8.out.size))
  clear hb9
  go_wp2
  go_ret
  exact ⟨rfl, a9.out⟩
end Go.Proofs.YtapbmpodimdkpaaDoor
