/- The exact law of OrderValid: the walk (written by program). -/
import Derived.Test.YtfedffekbemcoaaOrB
import Derived.Deep.DeepCutAuto
namespace Go.Proofs.Ytfedffekbemcoaa
open Go.ChangeShapes Go.WideShapes Go.ChangeAt Go.RowKit

set_option maxRecDepth 100000 in
set_option maxHeartbeats 4000000 in
theorem exactOrderValid_walk (w : World) (A0 : Option Addr) (n0 c0 : Nat) (us0 : List TP) (hn0 : n0 ≤ 9223372036854775807) (hr0 : RowP w A0 n0 us0) :
    Calls Try.prog 3 #[.slice A0 n0 c0] w fun e w' => e = .returned (.bool true) ∧ Below w.heap.size w w' := by
  have HR0 := Lib.hid hr0
  have HL0 := Lib.hid hr0.len
  clear hr0
  by_cases H0 : (n0 : Int) ≤ ((1048576 : Int))
  rotate_left
  · go_enter Try.func3, Try.ntmps3
    have hps0 : ¬ (((1048576 : Int)) < 0) := by omega
    go_wp2_with fail
    refine (szStepS_any A0 n0 c0 ((1048576 : Int)) (by omega) (by omega) hn0 _).mono ?_
    rintro e w' ⟨rfl, rfl⟩
    go_wp2
    go_ret
    exact ⟨rfl, Below.refl _ _⟩
  have h0 : n0 ≤ 1048576 := by omega
  go_enter Try.func3, Try.ntmps3
  go_wp2_with fail
  refine (szStepS_any A0 n0 c0 ((1048576 : Int)) (by omega) (by omega) hn0 _).mono ?_
  rintro e w' ⟨rfl, rfl⟩
  simp only [H0, if_true]
  have hps0 : ¬ (((1048576 : Int)) - (n0 : Int) < 0) := by omega
  go_wp2_with fail
  refine (toStepS_any A0 n0 c0 us0 _ h0 (HR0.out)).mono ?_
  rintro e w2 ⟨gs0, rfl, hb2, hgs0, hks0⟩
  have a2 : Below w.heap.size w w2 := hb2
  have Z2 := Lib.hid (show w.heap.size ≤ w2.heap.size by have := hb2.size; (try simp at this); omega)
  have hlts0 := hks0.lt
  have Ys0_0 := Lib.hid hks0
  clear hks0
  have Bs0 := Lib.hid (show w.heap.size ≤ gs0 ∧ gs0 < w2.heap.size from ⟨by simpa using hgs0, hlts0⟩)
  clear hgs0 hlts0
  go_wp2_with fail
  refine (specOrderValid_x _ n0 n0 us0 _ h0 (Ys0_0.out.rowP HL0.out)).mono ?_
  rintro e w' ⟨rfl, rfl⟩
  go_wp2_with fail
  refine (toStepS_any A0 n0 c0 us0 _ h0 (HR0.out.below a2)).mono ?_
  rintro e w4 ⟨gx0, rfl, hb4, hgx0, hkx0⟩
  have a4 : Below w.heap.size w w4 := a2.trans (hb4.mono a2.size)
  have Z4 := Lib.hid (show w2.heap.size ≤ w4.heap.size by have := hb4.size; (try simp at this); omega)
  have hltx0 := hkx0.lt
  have Yx0_0 := Lib.hid hkx0
  clear hkx0
  have Bx0 := Lib.hid (show w2.heap.size ≤ gx0 ∧ gx0 < w4.heap.size from ⟨by simpa using hgx0, hltx0⟩)
  clear hgx0 hltx0
  go_wp2_with fail
  refine (orderValid_x _ n0 n0 us0 _ h0 (Yx0_0.out.rowP HL0.out)).mono ?_
  rintro e w5 ⟨rfl, hb5⟩
  have a5 : Below w.heap.size w w5 := a4.trans (hb5.mono a4.size)
  have Z5 := Lib.hid (show w4.heap.size ≤ w5.heap.size by have := hb5.size; (try simp at this); omega)
  have Yx0_1 := Lib.hid (Yx0_0.out.keep hb5)
  clear Yx0_0
  go_wp2_with fail
  refine (toStepS_any A0 n0 c0 us0 _ h0 (HR0.out.below a5)).mono ?_
  rintro e w6 ⟨gy0, rfl, hb6, hgy0, hky0⟩
  have a6 : Below w.heap.size w w6 := a5.trans (hb6.mono a5.size)
  have Z6 := Lib.hid (show w5.heap.size ≤ w6.heap.size by have := hb6.size; (try simp at this); omega)
  have Yx0_2 := Lib.hid (Yx0_1.out.keep hb6)
  clear Yx0_1
  have hlty0 := hky0.lt
  have Yy0_0 := Lib.hid hky0
  clear hky0
  have By0 := Lib.hid (show w5.heap.size ≤ gy0 ∧ gy0 < w6.heap.size from ⟨by simpa using hgy0, hlty0⟩)
  clear hgy0 hlty0
  go_wp2_with fail
  refine (eqStepS_same _ _ n0 n0 n0 us0 _ h0 (Yx0_2.out.rowP HL0.out) (Yy0_0.out.rowP HL0.out)).mono ?_
  rintro e w7 ⟨rfl, hb7⟩
  have a7 : Below w.heap.size w w7 := a6.trans (hb7.mono a6.size)
  have Z7 := Lib.hid (show w6.heap.size ≤ w7.heap.size by have := hb7.size; (try simp at this); omega)
  have Yx0_3 := Lib.hid (Yx0_2.out.keep hb7)
  clear Yx0_2
  have Yy0_1 := Lib.hid (Yy0_0.out.keep hb7)
  clear Yy0_0
  go_wp2
  go_ret
  exact ⟨rfl, a7⟩
end Go.Proofs.Ytfedffekbemcoaa
