/- Switching orders: FnOrderValid, FnOrderBack: the walks. -/
import Derived.Test.YtfedffekbemcoaaDoorOrK
import Derived.Test.YtfedffekbemcoaaDoorOrA
import Derived.Test.YtfedffekbemcoaaDoorOr8
import Derived.Test.YtfedffekbemcoaaDoorD3
namespace Go.Proofs.YtfedffekbemcoaaDoor
open Go.ChangeShapes Go.WideShapes Go.ChangeAt Go.RowKit

theorem ordOk_more (us : List TP) : ordOk (us ++ [(10, false)]) = false := by
  rw [ordOk, List.all_append]
  have : stepOk (10, false) = false := by decide
  simp [this]
theorem ordOk_tail {p : TP} {r : List TP} (h : ordOk (p :: r) = true) : ordOk r = true := by
  rw [ordOk_iff] at *
  exact ⟨fun q hq => h.1 q (by simp [hq]), by have := h.2; simp at this; omega⟩
/-- The steps behind the first one. -/
theorem OwnP.tail {w : World} {base g n c : Nat} {p : TP} {r : List TP} (h : OwnP w base (.slice (some ⟨g, 0, none⟩) n c) (p :: r)) : RowP w (some ⟨g, 2, none⟩) r.length r := by
  obtain ⟨A, c', e, hl, hr⟩ := h.row
  obtain ⟨b, off, e2, hlt, hc⟩ := hr (by simp)
  injection e with e1
  rw [← e1] at e2
  injection e2 with e2; injection e2 with e3 e4
  subst e3
  refine ⟨rfl, fun _ => ⟨g, 2, rfl, hlt, fun k u hk => ?_⟩⟩
  obtain ⟨h0, h1⟩ := hc (k + 1) u (by simpa using hk)
  rw [← e4] at h0 h1
  rw [show 2 + k * 2 = 0 + (k + 1) * 2 by omega]
  exact ⟨h0, h1⟩

set_option maxRecDepth 100000 in
set_option maxHeartbeats 4000000 in
theorem orderBack_walk (w : World) (A : Option Addr) (n c : Nat) (code : List Int) (hr : RowB w A n code) (hnc : n ≤ c) (hc : c ≤ 9223372036854775807) :
    Calls Tryd.prog 8 #[.slice A n c] w fun e w' => e = .returned (.bool true) ∧ Below w.heap.size w w' := by
  by_cases hlen : n ≤ 1048576
  · have hlen' : ¬ (1048576 : Int) < (n : Int) := by omega
    go_enter Tryd.func8, Tryd.ntmps8
    go_wp2_with fail
    refine (drawOrderBack_any A n c code _ hr hnc hc).mono ?_
    rintro e w1 ⟨v, us, rfl, hO, hl, b1⟩
    obtain ⟨Av, cv, rfl, hR⟩ := hO.row
    have R1 := Lib.hid hR
    have O1 := Lib.hid hO
    have B1 := Lib.hid b1
    clear hr hO hR b1
    go_wp2_with fail
    refine (orderBack_any _ us.length cv us _ (by omega) R1.out).mono ?_
    rintro e w2 ⟨x, rfl, hX, hb2⟩
    have B2 := Lib.hid (B1.out.trans (hb2.mono B1.out.size))
    have X2 := Lib.hid (hX.more B1.out.size)
    have O2 := Lib.hid (O1.out.keep hb2)
    have R2 := Lib.hid (R1.out.below hb2)
    clear hb2 hX
    go_wp2_with fail
    refine (specOrderBack_any _ us.length cv us _ (by omega) R2.out).mono ?_
    rintro e w3 ⟨y, rfl, hY, hb3⟩
    have B3 := Lib.hid (B2.out.trans (hb3.mono B2.out.size))
    have X3 := Lib.hid (X2.out.keep hb3)
    have O3 := Lib.hid (O2.out.keep hb3)
    have R3 := Lib.hid (R2.out.below hb3)
    have Y3 := Lib.hid hY
    clear hb3 hY
    have hbl : (backF us).length ≤ 13 := by rw [backF]; split <;> simp [backO_len]; omega
    go_wp2_with fail
    refine (sameSteps_own (by omega) X3.out Y3.out).mono ?_
    rintro e w4 ⟨rfl, hb4⟩
    have B4 := Lib.hid (B3.out.trans (hb4.mono B3.out.size))
    have X4 := Lib.hid (X3.out.keep hb4)
    have O4 := Lib.hid (O3.out.keep hb4)
    have R4 := Lib.hid (R3.out.below hb4)
    clear hb4 Y3 X3 O3 R3 X2 O2 R2 hbl
    cases ho : ordOk us
    · have HB := Lib.hid (show backF us = [] by rw [backF, ho]; rfl)
      rw [HB.out] at X4
      obtain ⟨Ax, cx, rfl, _⟩ := X4.out.row
      go_wp2_with fail
      refine (specOrderValid_any _ us.length cv us _ (by omega) R4.out).mono ?_
      rintro e w5 ⟨rfl, rfl⟩
      rw [ho]
      go_wp2_with fail
      refine (alive_any _).mono ?_
      rintro e w6 ⟨rfl, hb6⟩
      go_wp2
      go_ret
      exact ⟨rfl, B4.out.trans (hb6.mono B4.out.size)⟩
    · have HO := Lib.hid ho
      have HB := Lib.hid (show backF us = backO us by rw [backF, ho]; rfl)
      have HBB := Lib.hid (show backF (backO us) = us by rw [backF, ordOk_back ho, if_pos rfl, backO_back])
      rw [HB.out] at X4
      obtain ⟨Ax, cx, rfl, hx⟩ := X4.out.row
      have RX := Lib.hid hx
      have hbl : (backO us).length = us.length := backO_len us
      have HBL := Lib.hid hbl
      clear ho hx
      rw [hbl] at RX ⊢
      clear hbl
      go_wp2_with fail
      refine (specOrderValid_any _ us.length cv us _ (by omega) R4.out).mono ?_
      rintro e w5 ⟨rfl, rfl⟩
      rw [HO.out]
      go_wp2_with fail
      refine (orderBack_any _ us.length cx (backO us) _ (by omega) RX.out).mono ?_
      rw [HBB.out]
      rintro e w6 ⟨z, rfl, hZ, hb6⟩
      have B6 := Lib.hid (B4.out.trans (hb6.mono B4.out.size))
      have O6 := Lib.hid (O4.out.keep hb6)
      have Z6 := Lib.hid hZ
      clear hb6 hZ
      go_wp2_with fail
      refine (sameSteps_own (by omega) Z6.out O6.out).mono ?_
      rintro e w7 ⟨rfl, hb7⟩
      go_wp2
      go_ret
      exact ⟨rfl, B6.out.trans (hb7.mono B6.out.size)⟩
  · have hl2 : (1048576 : Int) < (n : Int) := by omega
    go_enter Tryd.func8, Tryd.ntmps8
    go_wp2
    go_ret
    exact ⟨rfl, Below.refl _ _⟩
end Go.Proofs.YtfedffekbemcoaaDoor
