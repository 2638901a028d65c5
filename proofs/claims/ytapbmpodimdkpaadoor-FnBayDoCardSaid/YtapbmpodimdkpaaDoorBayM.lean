/- Bays: the promise of BayDo: the walk. -/
import Derived.Test.YtapbmpodimdkpaaDoorBayH
import Derived.Test.YtapbmpodimdkpaaDoorBay6
namespace Go.Proofs.YtapbmpodimdkpaaDoor
open Go.ChangeShapes Go.WideShapes Go.ChangeAt Go.RowKit

theorem back_way {b : B4} {k : Nat} (hk : k < 8) (hs : safeF b = true) (hm : mayF b (k : Int) = true) : mayF (doF b k) ((k : Int) + 1 - 2 * ((k : Int) % 2)) = true ∧ doF (doF b k) ((k : Int) + 1 - 2 * ((k : Int) % 2)) = b := by
  have h := back_doF hs hm
  have e : backF (k : Int) = (k : Int) + 1 - 2 * ((k : Int) % 2) := by
    rw [(backN hk).1]; omega
  rwa [e] at h
theorem do_moves' : ∀ a b c e : Bool, ∀ d, d < 8 → mayN (a, b, c, e) d = true → doN (a, b, c, e) d ≠ (a, b, c, e) := by decide
theorem do_moves {b : B4} {k : Nat} (hk : k < 8) (hm : mayF b (k : Int) = true) : doF b k ≠ b := by
  rw [mayF_nat hk] at hm
  rw [doF_nat hk hm]
  exact do_moves' b.1 b.2.1 b.2.2.1 b.2.2.2 k hk hm

set_option maxRecDepth 100000 in
set_option maxHeartbeats 4000000 in
theorem lawBayDo_walk (w : World) (A : Option Addr) (n c : Nat) (code : List Int) (hr : RowB w A n code) (hnc : n ≤ c) (hc : c ≤ 9223372036854775807) (hT : MustTab w) :
    Calls Tryd.prog 5 #[.slice A n c] w fun x w' => x = .returned (.bool true) ∧ Below w.heap.size w w' := by
  have HT := Lib.hid hT
  clear hT
  by_cases hbig : 1048576 < n
  · go_enter Tryd.func5, Tryd.ntmps5
    go_wp2
    go_ret
    exact ⟨rfl, Below.refl _ _⟩
  · go_enter Tryd.func5, Tryd.ntmps5
    go_wp2_with fail
    refine (drawBayDo_any A n c code _ hr hnc hc).mono ?_
    rintro x w1 ⟨y, d, rfl, hd0, hd1, hb1⟩
    obtain ⟨y0, y1, y2, y3⟩ := y
    dsimp only [vB]
    have K1 := Lib.hid (IsBlk.new w1 24 #[.bool y0, .bool y1, .bool y2, .bool y3])
    have a1 := Lib.hid (hb1.alloc hb1.size (.cells #[.bool y0, .bool y1, .bool y2, .bool y3] 24))
    clear hb1 hr
    go_wp2_with fail
    refine (bayDo_any y0 y1 y2 y3 d _ (HT.out.keep a1.out)).mono ?_
    rintro x w2 ⟨rfl, hb2⟩
    generalize hz : doF (y0, y1, y2, y3) d = z
    have HZ := Lib.hid hz
    obtain ⟨z0, z1, z2, z3⟩ := z
    dsimp only [vB]
    have K2 := Lib.hid ((K1.out.keep hb2).alloc (.cells #[.bool z0, .bool z1, .bool z2, .bool z3] 24))
    have Z2 := Lib.hid (IsBlk.new w2 24 #[.bool z0, .bool z1, .bool z2, .bool z3])
    have a2' := a1.out.trans (hb2.mono a1.out.size)
    have a2 := Lib.hid (a2'.alloc a2'.size (.cells #[.bool z0, .bool z1, .bool z2, .bool z3] 24))
    obtain ⟨p0, p1, p2, p3, -⟩ := K2.out.four
    clear hb2 K1 a1 a2' hz
    go_wp2_with fail
    refine (specBayDo_any y0 y1 y2 y3 d _).mono ?_
    rintro x w3 ⟨rfl, hb3⟩
    rw [HZ.out]
    dsimp only [vB]
    have K3 := Lib.hid ((K2.out.keep hb3).alloc (.cells #[.bool z0, .bool z1, .bool z2, .bool z3] 24))
    have Z3 := Lib.hid ((Z2.out.keep hb3).alloc (.cells #[.bool z0, .bool z1, .bool z2, .bool z3] 24))
    have V3 := Lib.hid (IsBlk.new w3 24 #[.bool z0, .bool z1, .bool z2, .bool z3])
    have a3' := a2.out.trans (hb3.mono a2.out.size)
    have a3 := Lib.hid (a3'.alloc a3'.size (.cells #[.bool z0, .bool z1, .bool z2, .bool z3] 24))
    clear hb3 K2 Z2 a2 a3' p0 p1 p2 p3
    obtain ⟨p0, p1, p2, p3, -⟩ := K3.out.four
    obtain ⟨q0, q1, q2, q3, -⟩ := Z3.out.four
    obtain ⟨r0, r1, r2, r3, -⟩ := V3.out.four
    have hcmp := neqBay (z0, z1, z2, z3) (z0, z1, z2, z3)
    rw [decide_eq_true rfl] at hcmp
    dsimp only [vB] at hcmp
    by_cases hm : mayF (y0, y1, y2, y3) d = true
    · obtain ⟨k, rfl, hk, -⟩ := mayF_in hm
      have HBW := Lib.hid (fun hs => back_way hk hs hm)
      have hmv := do_moves hk hm
      rw [HZ.out] at hmv
      have HMV := Lib.hid hmv
      rw [hm]
      clear hm hmv
      go_wp2_with fail
      refine (bayDo_any z0 z1 z2 z3 _ _ (HT.out.keep a3.out)).mono ?_
      rintro x w4 ⟨rfl, hb4⟩
      by_cases hs : safeF (y0, y1, y2, y3) = true
      · have hbk := HBW.out hs
        rw [HZ.out] at hbk
        rw [hbk.1, hbk.2]
        dsimp only [vB]
        clear hbk
        have K4 := Lib.hid ((K3.out.keep hb4).alloc (.cells #[.bool y0, .bool y1, .bool y2, .bool y3] 24))
        have Z4 := Lib.hid ((Z3.out.keep hb4).alloc (.cells #[.bool y0, .bool y1, .bool y2, .bool y3] 24))
        have V4 := Lib.hid (IsBlk.new w4 24 #[.bool y0, .bool y1, .bool y2, .bool y3])
        have a4' := a3.out.trans (hb4.mono a3.out.size)
        have a4 := Lib.hid (a4'.alloc a4'.size (.cells #[.bool y0, .bool y1, .bool y2, .bool y3] 24))
        clear hb4 K3 Z3 V3 a3 a4' p0 p1 p2 p3 q0 q1 q2 q3 r0 r1 r2 r3 hcmp
        obtain ⟨p0, p1, p2, p3, -⟩ := K4.out.four
        obtain ⟨q0, q1, q2, q3, -⟩ := Z4.out.four
        have hcmp := neqBay (z0, z1, z2, z3) (y0, y1, y2, y3)
        rw [decide_eq_false HMV.out] at hcmp
        dsimp only [vB] at hcmp
        go_wp2_with fail
        refine (baySafe_any y0 y1 y2 y3 _).mono ?_
        rintro x w5 ⟨rfl, hb5⟩
        rw [hs]
        have a5 := Lib.hid (a4.out.trans (hb5.mono a4.out.size))
        obtain ⟨r0, r1, r2, r3, -⟩ := (V4.out.keep hb5).four
        clear p0 p1 p2 p3
        obtain ⟨p0, p1, p2, p3, -⟩ := (K4.out.keep hb5).four
        have hc2 := eqlBay (y0, y1, y2, y3) (y0, y1, y2, y3)
        rw [decide_eq_true rfl] at hc2
        dsimp only [vB] at hc2
        go_wp2
        go_ret
        exact ⟨rfl, a5.out⟩
      · rw [Bool.not_eq_true] at hs
        generalize doF (z0, z1, z2, z3) ((k : Int) + 1 - 2 * ((k : Int) % 2)) = v
        generalize mayF (z0, z1, z2, z3) ((k : Int) + 1 - 2 * ((k : Int) % 2)) = t
        obtain ⟨v0, v1, v2, v3⟩ := v
        dsimp only [vB]
        have K4 := Lib.hid ((K3.out.keep hb4).alloc (.cells #[.bool v0, .bool v1, .bool v2, .bool v3] 24))
        have Z4 := Lib.hid ((Z3.out.keep hb4).alloc (.cells #[.bool v0, .bool v1, .bool v2, .bool v3] 24))
        have V4 := Lib.hid (IsBlk.new w4 24 #[.bool v0, .bool v1, .bool v2, .bool v3])
        have a4' := a3.out.trans (hb4.mono a3.out.size)
        have a4 := Lib.hid (a4'.alloc a4'.size (.cells #[.bool v0, .bool v1, .bool v2, .bool v3] 24))
        clear hb4 K3 Z3 V3 a3 a4' p0 p1 p2 p3 q0 q1 q2 q3 r0 r1 r2 r3 hcmp
        obtain ⟨p0, p1, p2, p3, -⟩ := K4.out.four
        obtain ⟨q0, q1, q2, q3, -⟩ := Z4.out.four
        have hcmp := neqBay (z0, z1, z2, z3) (y0, y1, y2, y3)
        rw [decide_eq_false HMV.out] at hcmp
        dsimp only [vB] at hcmp
        go_wp2_with fail
        refine (baySafe_any y0 y1 y2 y3 _).mono ?_
        rintro x w5 ⟨rfl, hb5⟩
        rw [hs]
        have a5 := Lib.hid (a4.out.trans (hb5.mono a4.out.size))
        go_wp2
        go_ret
        exact ⟨rfl, a5.out⟩
    · rw [Bool.not_eq_true] at hm
      have he : (z0, z1, z2, z3) = (y0, y1, y2, y3) := by rw [← HZ.out, doF, if_neg (by rw [hm]; simp)]
      obtain ⟨rfl, rfl, rfl, rfl⟩ : z0 = y0 ∧ z1 = y1 ∧ z2 = y2 ∧ z3 = y3 := by simpa using he
      have hc2 := eqlBay (z0, z1, z2, z3) (z0, z1, z2, z3)
      rw [decide_eq_true rfl] at hc2
      dsimp only [vB] at hc2
      rw [hm]
      go_wp2_with fail
      refine (bayMay_any z0 z1 z2 z3 d _ (HT.out.keep a3.out)).mono ?_
      rintro x w4 ⟨rfl, hb4⟩
      rw [hm]
      have a4 := Lib.hid (a3.out.trans (hb4.mono a3.out.size))
      clear hb4 p0 p1 p2 p3 q0 q1 q2 q3 r0 r1 r2 r3
      go_wp2_with fail
      refine (alive_any _).mono ?_
      rintro x w5 ⟨rfl, hb5⟩
      go_wp2
      go_ret
      exact ⟨rfl, a4.out.trans (hb5.mono a4.out.size)⟩
end Go.Proofs.YtapbmpodimdkpaaDoor
