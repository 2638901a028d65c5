/- FnChangeAll: the walk. -/
import Derived.Test.YtcgbigbbonlgfaaDoorG10
namespace Go.Proofs.YtcgbigbbonlgfaaDoor
open Go.ChangeShapes Go.WideShapes Go.ChangeAt Go.RowKit

set_option maxRecDepth 100000 in
set_option maxHeartbeats 1000000 in
theorem changeAll_walk (w : World) (A : Option Addr) (n c : Nat) (code : List Int) (hr : RowB w A n code) (hnc : n ≤ c) (hc : c ≤ 9223372036854775807) :
    Calls Tryd.prog 8 #[.slice A n c] w fun e w' => e = .returned (.bool true) ∧ Below w.heap.size w w' := by
  by_cases hlen : n ≤ 1048576
  · go_enter Tryd.func8, Tryd.ntmps8
    go_wp2_with fail
    refine (drawChangeAll_any A n c code _ hr hnc hc).mono ?_
    rintro e w1 ⟨Z, v, ts, vl, zs, rfl, hS, hts, hzs⟩
    have a1 := hS.bel
    have O1 := Lib.hid hS.on
    have L1 := Lib.hid hS.list
    obtain ⟨A1, c1, rfl, _, hrow⟩ := hS.on.row
    obtain ⟨A2, c2, rfl, hrz⟩ := hS.list.form
    have R1 := Lib.hid hrow
    have Z1 := Lib.hid hrz
    clear hS hrow hrz hr
    have h1 : ts.length ≤ 1048576 := by omega
    have h2 : zs.length ≤ 1048576 := by omega
    go_wp2_with fail
    refine (changeAll_any A1 ts.length c1 ts A2 zs.length c2 zs _ h1 R1.out h2 Z1.out).mono ?_
    rintro e w2 ⟨v2, rfl, hO2, hb2⟩
    have a2 := a1.trans (hb2.mono a1.size)
    have O2 := Lib.hid (O1.out.keep hb2)
    have R2 := Lib.hid (R1.out.below hb2)
    have Z2 := Lib.hid (Z1.out.below hb2)
    have X2 := Lib.hid hO2
    clear hO2 O1 R1 Z1 L1
    go_wp2_with fail
    refine (specChangeAll_any A1 ts.length c1 ts A2 zs.length c2 zs _ h1 R2.out h2 Z2.out).mono ?_
    rintro e w3 ⟨v3, rfl, hO3, hb3⟩
    have a3 := a2.trans (hb3.mono a2.size)
    have O3 := Lib.hid (O2.out.keep hb3)
    have R3 := Lib.hid (R2.out.below hb3)
    have Z3 := Lib.hid (Z2.out.below hb3)
    have X3 := Lib.hid (X2.out.keep hb3)
    have Y3 := Lib.hid hO3
    clear hO3 O2 R2 Z2 X2
    go_wp2_with fail
    refine (sameBools_own (Nat.le_trans (caF_len _ _) h1) X3.out Y3.out).mono ?_
    rintro e w4 ⟨rfl, hb4⟩
    have a4 := a3.trans (hb4.mono a3.size)
    have O4 := Lib.hid (O3.out.keep hb4)
    have R4 := Lib.hid (R3.out.below hb4)
    have Z4 := Lib.hid (Z3.out.below hb4)
    have X4 := Lib.hid (X3.out.keep hb4)
    clear O3 R3 Z3 X3 Y3
    rcases hca : chAll ts zs with _ | us
    · have HB := Lib.hid (show caB ts zs = false by rw [caB, hca]; rfl)
      have HE := Lib.hid (show (caF ts zs).length = 0 by rw [caF, hca]; rfl)
      obtain ⟨A3, c3, hv, _, _⟩ := X4.out.row
      subst hv
      clear hca
      rw [HE.out, HB.out]
      go_wp2_with fail
      refine (alive_any _).mono ?_
      rintro e w5 ⟨rfl, hb5⟩
      go_wp2
      go_ret
      exact ⟨rfl, a4.trans (hb5.mono a4.size)⟩
    · have HB := Lib.hid (show caB ts zs = true by rw [caB, hca]; rfl)
      have hF : caF ts zs = us := by rw [caF, hca]; rfl
      have hul := chAll_len hca
      have HB2 := Lib.hid (show caB us zs = true by rw [caB, chAll_twice hca]; rfl)
      have HF2 := Lib.hid (show caF us zs = ts by rw [caF, chAll_twice hca]; rfl)
      have hfew := chF_few hca
      have X := X4.out
      rw [hF] at X
      obtain ⟨A3, c3, hv, _, hx⟩ := X.row
      subst hv
      rw [hul] at hx ⊢
      have XR := Lib.hid hx
      have HUL := Lib.hid hul
      rw [HB.out]
      clear hca hF hul X hx X4
      go_wp2_with fail
      refine (changeAll_any A3 ts.length c3 us A2 zs.length c2 zs _ h1 XR.out h2 Z4.out).mono ?_
      rintro e w5 ⟨v5, rfl, hO5, hb5⟩
      rw [HB2.out]
      rw [HF2.out] at hO5
      have a5 := a4.trans (hb5.mono a4.size)
      have Y5 := Lib.hid hO5
      have O5 := Lib.hid (O4.out.keep hb5)
      have R5 := Lib.hid (R4.out.below hb5)
      have XR5 := Lib.hid (XR.out.below hb5)
      clear hO5 O4 R4 XR Z4
      go_wp2_with fail
      refine (sameBools_own h1 Y5.out O5.out).mono ?_
      rintro e w6 ⟨rfl, hb6⟩
      have a6 := a5.trans (hb6.mono a5.size)
      go_wp2_with fail
      refine (changes_any A1 ts.length c1 ts A3 ts.length c3 us _ h1 (R5.out.below hb6) h1 (XR5.out.below hb6)).mono ?_
      rintro e w7 ⟨v7, rfl, hO7, hb7⟩
      obtain ⟨A7, c7, rfl, _⟩ := hO7.form
      have hfew2 : ((chF ts us).length : Int) ≤ (zs.length : Int) := by omega
      clear hO7
      go_wp2
      go_ret
      exact ⟨rfl, a6.trans (hb7.mono a6.size)⟩
  · have hl2 : (1048576 : Int) < (n : Int) := by omega
    go_enter Tryd.func8, Tryd.ntmps8
    go_wp2
    go_ret
    exact ⟨rfl, Below.refl _ _⟩
end Go.Proofs.YtcgbigbbonlgfaaDoor
