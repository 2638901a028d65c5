/- Bays: the promise of BayMay: the walk. -/
import Derived.Test.YtapbmpodimdkpaaDoorBayH
import Derived.Test.YtapbmpodimdkpaaDoorBay6
namespace Go.Proofs.YtapbmpodimdkpaaDoor
open Go.ChangeShapes Go.WideShapes Go.ChangeAt Go.RowKit

theorem back_safe {b : B4} {k : Nat} (hk : k < 8) (hs : safeF b = true) (hm : mayF b (k : Int) = true) : safeF (doF b k) = true ∧ mayF (doF b k) ((k : Int) + 1 - 2 * ((k : Int) % 2)) = true := by
  have h := back_doF hs hm
  have e : backF (k : Int) = (k : Int) + 1 - 2 * ((k : Int) % 2) := by
    rw [(backN hk).1]; omega
  rw [e] at h
  exact ⟨safe_doF hs, h.1⟩
theorem twice_no {b : B4} {k : Nat} (hk : k < 8) (hm : mayF b (k : Int) = true) : mayF (doF b k) (k : Int) = false ∧ (b.1 = true → k / 2 ≠ 1 ∧ k / 2 ≠ 2) := by
  rw [mayF_nat hk] at hm
  have h := may_twice b.1 b.2.1 b.2.2.1 b.2.2.2 k hk hm
  rw [doF_nat hk hm, mayF_nat hk]
  exact h

set_option maxRecDepth 100000 in
set_option maxHeartbeats 4000000 in
theorem lawBayMay_walk (w : World) (A : Option Addr) (n c : Nat) (code : List Int) (hr : RowB w A n code) (hnc : n ≤ c) (hc : c ≤ 9223372036854775807) (hT : MustTab w) :
    Calls Tryd.prog 4 #[.slice A n c] w fun x w' => x = .returned (.bool true) ∧ Below w.heap.size w w' := by
  have HT := Lib.hid hT
  clear hT
  by_cases hbig : 1048576 < n
  · go_enter Tryd.func4, Tryd.ntmps4
    go_wp2
    go_ret
    exact ⟨rfl, Below.refl _ _⟩
  · go_enter Tryd.func4, Tryd.ntmps4
    go_wp2_with fail
    refine (drawBayMay_any A n c code _ hr hnc hc).mono ?_
    rintro x w1 ⟨y, d, rfl, hd0, hd1, hb1⟩
    obtain ⟨y0, y1, y2, y3⟩ := y
    dsimp only [vB]
    have K1 := Lib.hid (IsBlk.new w1 24 #[.bool y0, .bool y1, .bool y2, .bool y3])
    have a1 := Lib.hid (hb1.alloc hb1.size (.cells #[.bool y0, .bool y1, .bool y2, .bool y3] 24))
    clear hb1 hr
    go_wp2_with fail
    refine (bayMay_any y0 y1 y2 y3 d _ (HT.out.keep a1.out)).mono ?_
    rintro x w2 ⟨rfl, hb2⟩
    have K2 := Lib.hid (K1.out.keep hb2)
    have a2 := Lib.hid (a1.out.trans (hb2.mono a1.out.size))
    obtain ⟨p0, p1, p2, p3, -⟩ := K2.out.four
    clear hb2 K1 a1
    go_wp2_with fail
    refine (specBayMay_any y0 y1 y2 y3 d _).mono ?_
    rintro x w3 ⟨rfl, hb3⟩
    have K3 := Lib.hid (K2.out.keep hb3)
    have a3 := Lib.hid (a2.out.trans (hb3.mono a2.out.size))
    clear hb3 K2 a2 p0 p1 p2 p3
    obtain ⟨p0, p1, p2, p3, -⟩ := K3.out.four
    by_cases hm : mayF (y0, y1, y2, y3) d = true
    · obtain ⟨k, rfl, hk, -⟩ := mayF_in hm
      have HM := Lib.hid hm
      have HBS := Lib.hid (fun hs => back_safe hk hs hm)
      have HTW := Lib.hid (twice_no hk hm)
      rw [hm]
      clear hm
      go_wp2_with fail
      refine (bayDo_any y0 y1 y2 y3 k _ (HT.out.keep a3.out)).mono ?_
      rintro x w4 ⟨rfl, hb4⟩
      rw [HM.out]
      have hbs := HBS.out
      have htw := HTW.out
      generalize doF (y0, y1, y2, y3) (k : Int) = z at *
      obtain ⟨z0, z1, z2, z3⟩ := z
      dsimp only [vB]
      have K4 := Lib.hid ((K3.out.keep hb4).alloc (.cells #[.bool z0, .bool z1, .bool z2, .bool z3] 24))
      have Z4 := Lib.hid (IsBlk.new w4 24 #[.bool z0, .bool z1, .bool z2, .bool z3])
      have a4' := a3.out.trans (hb4.mono a3.out.size)
      have a4 := Lib.hid (a4'.alloc a4'.size (.cells #[.bool z0, .bool z1, .bool z2, .bool z3] 24))
      have HBS2 := Lib.hid hbs
      have HTW2 := Lib.hid htw
      clear hb4 a4' K3 a3 p0 p1 p2 p3 hbs htw HBS HTW
      obtain ⟨p0, p1, p2, p3, -⟩ := K4.out.four
      go_wp2_with fail
      refine (baySafe_any y0 y1 y2 y3 _).mono ?_
      rintro x w5 ⟨rfl, hb5⟩
      have K5 := Lib.hid (K4.out.keep hb5)
      have Z5 := Lib.hid (Z4.out.keep hb5)
      have a5 := Lib.hid (a4.out.trans (hb5.mono a4.out.size))
      clear hb5 K4 Z4 a4 p0 p1 p2 p3
      obtain ⟨p0, p1, p2, p3, -⟩ := K5.out.four
      obtain ⟨q0, q1, q2, q3, -⟩ := Z5.out.four
      by_cases hs : safeF (y0, y1, y2, y3) = true
      · have HB := Lib.hid (HBS2.out hs)
        rw [hs]
        clear hs
        go_wp2_with fail
        refine (baySafe_any z0 z1 z2 z3 _).mono ?_
        rintro x w6 ⟨rfl, hb6⟩
        rw [HB.out.1]
        have K6 := Lib.hid (K5.out.keep hb6)
        have Z6 := Lib.hid (Z5.out.keep hb6)
        have a6 := Lib.hid (a5.out.trans (hb6.mono a5.out.size))
        clear hb6 K5 Z5 a5 p0 p1 p2 p3 q0 q1 q2 q3
        obtain ⟨p0, p1, p2, p3, -⟩ := K6.out.four
        obtain ⟨q0, q1, q2, q3, -⟩ := Z6.out.four
        go_wp2_with fail
        refine (bayMay_any z0 z1 z2 z3 _ _ (HT.out.keep a6.out)).mono ?_
        rintro x w7 ⟨rfl, hb7⟩
        rw [HB.out.2]
        have K7 := Lib.hid (K6.out.keep hb7)
        have Z7 := Lib.hid (Z6.out.keep hb7)
        have a7 := Lib.hid (a6.out.trans (hb7.mono a6.out.size))
        clear hb7 K6 Z6 a6 p0 p1 p2 p3 q0 q1 q2 q3
        obtain ⟨p0, p1, p2, p3, -⟩ := K7.out.four
        obtain ⟨q0, q1, q2, q3, -⟩ := Z7.out.four
        go_wp2_with fail
        refine (bayMay_any z0 z1 z2 z3 _ _ (HT.out.keep a7.out)).mono ?_
        rintro x w8 ⟨rfl, hb8⟩
        rw [HTW2.out.1]
        have a8 := Lib.hid (a7.out.trans (hb8.mono a7.out.size))
        obtain ⟨p0, p1, p2, p3, -⟩ := (K7.out.keep hb8).four
        clear hb8 q0 q1 q2 q3 K7 Z7 a7
        cases y0 with
        | false =>
          go_wp2
          go_ret
          exact ⟨rfl, a8.out⟩
        | true =>
          have h12 := HTW2.out.2 rfl
          go_wp2
          go_ret
          refine ⟨?_, a8.out⟩
          simp
          omega
      · rw [Bool.not_eq_true] at hs
        rw [hs]
        go_wp2_with fail
        refine (bayMay_any z0 z1 z2 z3 _ _ (HT.out.keep a5.out)).mono ?_
        rintro x w8 ⟨rfl, hb8⟩
        rw [HTW2.out.1]
        have a8 := Lib.hid (a5.out.trans (hb8.mono a5.out.size))
        have K8 := Lib.hid (K5.out.keep hb8)
        clear hb8 p0 p1 p2 p3 q0 q1 q2 q3 K5 Z5 a5 hs
        obtain ⟨p0, p1, p2, p3, -⟩ := K8.out.four
        cases y0 with
        | false =>
          go_wp2
          go_ret
          exact ⟨rfl, a8.out⟩
        | true =>
          have h12 := HTW2.out.2 rfl
          go_wp2
          go_ret
          refine ⟨?_, a8.out⟩
          simp
          omega
    · rw [Bool.not_eq_true] at hm
      rw [hm]
      go_wp2_with fail
      refine (alive_any _).mono ?_
      rintro x w4 ⟨rfl, hb4⟩
      go_wp2
      go_ret
      exact ⟨rfl, a3.out.trans (hb4.mono a3.out.size)⟩
end Go.Proofs.YtapbmpodimdkpaaDoor
