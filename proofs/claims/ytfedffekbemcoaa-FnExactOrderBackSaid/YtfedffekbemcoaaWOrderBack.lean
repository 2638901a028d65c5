/- The exact law of OrderBack: the walk (written by program). -/
import Derived.Test.YtfedffekbemcoaaOrA
import Derived.Test.YtfedffekbemcoaaOr8
import Derived.Test.YtfedffekbemcoaaOrB
import Derived.Deep.DeepCutAuto
namespace Go.Proofs.Ytfedffekbemcoaa
open Go.ChangeShapes Go.WideShapes Go.ChangeAt Go.RowKit

set_option maxRecDepth 100000 in
set_option maxHeartbeats 4000000 in
theorem exactOrderBack_walk (w : World) (A0 : Option Addr) (n0 c0 : Nat) (us0 : List TP) (hn0 : n0 ≤ 9223372036854775807) (hr0 : RowP w A0 n0 us0) :
    Calls Try.prog 6 #[.slice A0 n0 c0] w fun e w' => e = .returned (.bool true) ∧ Below w.heap.size w w' := by
  have HR0 := Lib.hid hr0
  have HL0 := Lib.hid hr0.len
  clear hr0
  by_cases H0 : (n0 : Int) ≤ ((1048576 : Int))
  rotate_left
  · go_enter Try.func6, Try.ntmps6
    have hps0 : ¬ (((1048576 : Int)) < 0) := by omega
    go_wp2_with fail
    refine (szStepS_any A0 n0 c0 ((1048576 : Int)) (by omega) (by omega) hn0 _).mono ?_
    rintro e w' ⟨rfl, rfl⟩
    go_wp2
    go_ret
    exact ⟨rfl, Below.refl _ _⟩
  have h0 : n0 ≤ 1048576 := by omega
  go_enter Try.func6, Try.ntmps6
  go_wp2_with fail
  refine (szStepS_any A0 n0 c0 ((1048576 : Int)) (by omega) (by omega) hn0 _).mono ?_
  rintro e w' ⟨rfl, rfl⟩
  simp only [H0, if_true]
  have hps0 : ¬ (((1048576 : Int)) - (n0 : Int) < 0) := by omega
  go_wp2_with fail
  refine (toStepS_any A0 n0 c0 us0 _ h0 (HR0.out)).mono ?_
  rintro e w2 ⟨gs0, rfl, hb2, hgs0, hks0⟩
  have a2 : Below w.heap.size w w2 := hb2
  have Z2 := Lib.hid (show w.heap.size ≤ w2.heap.size by have := hb2.size; (try simp at this); omega)
  have hlts0 := hks0.lt
  have Ys0_0 := Lib.hid hks0
  clear hks0
  have Bs0 := Lib.hid (show w.heap.size ≤ gs0 ∧ gs0 < w2.heap.size from ⟨by simpa using hgs0, hlts0⟩)
  clear hgs0 hlts0
  go_wp2_with fail
  refine (specOrderBack_any _ n0 n0 us0 _ h0 (Ys0_0.out.rowP HL0.out)).mono ?_
  rintro e w3 ⟨vW, rfl, hO, hb3⟩
  try simp only [World.size_alloc] at hO
  have a3 : Below w.heap.size w w3 := a2.trans (hb3.mono a2.size)
  have Z3 := Lib.hid (show w2.heap.size ≤ w3.heap.size by have := hb3.size; (try simp at this); omega)
  have Ys0_1 := Lib.hid (Ys0_0.out.keep hb3)
  clear Ys0_0
  have BW := Lib.hid hO.lt
  have W_0 := Lib.hid hO
  clear hO
  go_wp2_with fail
  refine (toStepS_any A0 n0 c0 us0 _ h0 (HR0.out.below a3)).mono ?_
  rintro e w4 ⟨gx0, rfl, hb4, hgx0, hkx0⟩
  have a4 : Below w.heap.size w w4 := a3.trans (hb4.mono a3.size)
  have Z4 := Lib.hid (show w3.heap.size ≤ w4.heap.size by have := hb4.size; (try simp at this); omega)
  have W_1 := Lib.hid (W_0.out.keep hb4)
  clear W_0
  have hltx0 := hkx0.lt
  have Yx0_0 := Lib.hid hkx0
  clear hkx0
  have Bx0 := Lib.hid (show w3.heap.size ≤ gx0 ∧ gx0 < w4.heap.size from ⟨by simpa using hgx0, hltx0⟩)
  clear hgx0 hltx0
  go_wp2_with fail
  refine (orderBack_any _ n0 n0 us0 _ h0 (Yx0_0.out.rowP HL0.out)).mono ?_
  rintro e w5 ⟨vG, rfl, hO, hb5⟩
  try simp only [World.size_alloc] at hO
  have a5 : Below w.heap.size w w5 := a4.trans (hb5.mono a4.size)
  have Z5 := Lib.hid (show w4.heap.size ≤ w5.heap.size by have := hb5.size; (try simp at this); omega)
  have W_2 := Lib.hid (W_1.out.keep hb5)
  clear W_1
  have Yx0_1 := Lib.hid (Yx0_0.out.keep hb5)
  clear Yx0_0
  have BG := Lib.hid hO.lt
  have G_0 := Lib.hid hO
  clear hO
  go_wp2_with fail
  refine (eqStepS_own (Nat.le_trans (backF_len us0) (by rw [HL0.out]; exact h0)) G_0.out W_2.out).mono ?_
  rintro e w6 ⟨rfl, hb6⟩
  have a6 : Below w.heap.size w w6 := a5.trans (hb6.mono a5.size)
  have Z6 := Lib.hid (show w5.heap.size ≤ w6.heap.size by have := hb6.size; (try simp at this); omega)
  have W_3 := Lib.hid (W_2.out.keep hb6)
  clear W_2
  have Yx0_2 := Lib.hid (Yx0_1.out.keep hb6)
  clear Yx0_1
  have G_1 := Lib.hid (G_0.out.keep hb6)
  clear G_0
  go_wp2_with fail
  refine (toStepS_any A0 n0 c0 us0 _ h0 (HR0.out.below a6)).mono ?_
  rintro e w7 ⟨gy0, rfl, hb7, hgy0, hky0⟩
  have a7 : Below w.heap.size w w7 := a6.trans (hb7.mono a6.size)
  have Z7 := Lib.hid (show w6.heap.size ≤ w7.heap.size by have := hb7.size; (try simp at this); omega)
  have W_4 := Lib.hid (W_3.out.keep hb7)
  clear W_3
  have Yx0_3 := Lib.hid (Yx0_2.out.keep hb7)
  clear Yx0_2
  have G_2 := Lib.hid (G_1.out.keep hb7)
  clear G_1
  have hlty0 := hky0.lt
  have Yy0_0 := Lib.hid hky0
  clear hky0
  have By0 := Lib.hid (show w6.heap.size ≤ gy0 ∧ gy0 < w7.heap.size from ⟨by simpa using hgy0, hlty0⟩)
  clear hgy0 hlty0
  go_wp2_with fail
  refine (eqStepS_same _ _ n0 n0 n0 us0 _ h0 (Yx0_3.out.rowP HL0.out) (Yy0_0.out.rowP HL0.out)).mono ?_
  rintro e w8 ⟨rfl, hb8⟩
  have a8 : Below w.heap.size w w8 := a7.trans (hb8.mono a7.size)
  have Z8 := Lib.hid (show w7.heap.size ≤ w8.heap.size by have := hb8.size; (try simp at this); omega)
  have W_5 := Lib.hid (W_4.out.keep hb8)
  clear W_4
  have Yx0_4 := Lib.hid (Yx0_3.out.keep hb8)
  clear Yx0_3
  have G_3 := Lib.hid (G_2.out.keep hb8)
  clear G_2
  have Yy0_1 := Lib.hid (Yy0_0.out.keep hb8)
  clear Yy0_0
  go_wp2_with fail
  refine (markStepS_any gx0 n0 n0 us0 1 (by omega) (by omega) _ h0 HL0.out Yx0_4.out).mono ?_
  rintro e w9 ⟨rfl, hg9⟩
  have a9 : Below w.heap.size w w9 := a8.grown hg9 a8.size (fun q hq => by have := Z2.out; have := Z3.out; have := Z4.out; have := Z5.out; have := Z6.out; have := Z7.out; have := Z8.out; have := Bx0.out; injection hq with hqe; omega)
  have Z9 := Lib.hid (show w8.heap.size ≤ w9.heap.size by have := hg9.size; (try simp at this); omega)
  have W_6 := Lib.hid (W_5.out.far hg9 (fun q hq e => by have := Z2.out; have := Z3.out; have := Z4.out; have := Z5.out; have := Z6.out; have := Z7.out; have := Z8.out; have := Z9.out; have := Bx0.out; injection e with hqe; have := BW.out q hq; omega))
  clear W_5
  have G_4 := Lib.hid (G_3.out.far hg9 (fun q hq e => by have := Z2.out; have := Z3.out; have := Z4.out; have := Z5.out; have := Z6.out; have := Z7.out; have := Z8.out; have := Z9.out; have := Bx0.out; injection e with hqe; have := BG.out q hq; omega))
  clear G_3
  have hm1 : ¬ ((1 + 2 * (n0 : Int)) < 0) := by omega
  go_wp2_with fail
  refine (eqStepS_own (Nat.le_trans (backF_len us0) (by rw [HL0.out]; exact h0)) G_4.out W_6.out).mono ?_
  rintro e w10 ⟨rfl, hb10⟩
  have a10 : Below w.heap.size w w10 := a9.trans (hb10.mono a9.size)
  have Z10 := Lib.hid (show w9.heap.size ≤ w10.heap.size by have := hb10.size; (try simp at this); omega)
  have W_7 := Lib.hid (W_6.out.keep hb10)
  clear W_6
  have G_5 := Lib.hid (G_4.out.keep hb10)
  clear G_4
  go_wp2_with fail
  refine (markStepS_own _ _ _ 1 (by omega) (by omega) _ (Nat.le_trans (backF_len us0) (by rw [HL0.out]; exact h0)) G_5.out).mono ?_
  rintro e w11 ⟨rfl, hO, hg11⟩
  have a11 : Below w.heap.size w w11 := a10.grown hg11 a10.size (fun q hq => by have := Z2.out; have := Z3.out; have := Z4.out; have := Z5.out; have := Z6.out; have := Z7.out; have := Z8.out; have := Z9.out; have := Z10.out; have := BG.out _ hq; omega)
  have Z11 := Lib.hid (show w10.heap.size ≤ w11.heap.size by have := hg11.size; (try simp at this); omega)
  have W_8 := Lib.hid (W_7.out.far hg11 (fun q hq e => by have := Z2.out; have := Z3.out; have := Z4.out; have := Z5.out; have := Z6.out; have := Z7.out; have := Z8.out; have := Z9.out; have := Z10.out; have := Z11.out; have := BG.out _ e; have := BW.out q hq; omega))
  clear W_7
  clear G_5
  have G_6 := Lib.hid hO
  clear hO
  have hlr : (backF us0).length ≤ 1048576 := (Nat.le_trans (backF_len us0) (by rw [HL0.out]; exact h0))
  have hm2 : ¬ ((1 : Int) + 2 * ((backF us0).length : Int) < 0) := by omega
  go_wp2_with fail
  refine (heldStepS_own _ _ _ 1 (by omega) (by omega) _ hlr G_6.out).mono ?_
  rintro e w' ⟨rfl, rfl⟩
  go_wp2_with fail
  refine (toStepS_any A0 n0 c0 us0 _ h0 (HR0.out.below a11)).mono ?_
  rintro e w13 ⟨gz0, rfl, hb13, hgz0, hkz0⟩
  have a13 : Below w.heap.size w w13 := a11.trans (hb13.mono a11.size)
  have Z13 := Lib.hid (show w11.heap.size ≤ w13.heap.size by have := hb13.size; (try simp at this); omega)
  have W_9 := Lib.hid (W_8.out.keep hb13)
  clear W_8
  have G_7 := Lib.hid (G_6.out.keep hb13)
  clear G_6
  have hltz0 := hkz0.lt
  have Yz0_0 := Lib.hid hkz0
  clear hkz0
  have Bz0 := Lib.hid (show w11.heap.size ≤ gz0 ∧ gz0 < w13.heap.size from ⟨by simpa using hgz0, hltz0⟩)
  clear hgz0 hltz0
  go_wp2_with fail
  refine (orderBack_any _ n0 n0 us0 _ h0 (Yz0_0.out.rowP HL0.out)).mono ?_
  rintro e w14 ⟨vH, rfl, hO, hb14⟩
  try simp only [World.size_alloc] at hO
  have a14 : Below w.heap.size w w14 := a13.trans (hb14.mono a13.size)
  have Z14 := Lib.hid (show w13.heap.size ≤ w14.heap.size by have := hb14.size; (try simp at this); omega)
  have W_10 := Lib.hid (W_9.out.keep hb14)
  clear W_9
  have G_8 := Lib.hid (G_7.out.keep hb14)
  clear G_7
  have Yz0_1 := Lib.hid (Yz0_0.out.keep hb14)
  clear Yz0_0
  have BH := Lib.hid hO.lt
  have H_0 := Lib.hid hO
  clear hO
  go_wp2_with fail
  refine (eqStepS_own (Nat.le_trans (backF_len us0) (by rw [HL0.out]; exact h0)) H_0.out W_10.out).mono ?_
  rintro e w15 ⟨rfl, hb15⟩
  have a15 : Below w.heap.size w w15 := a14.trans (hb15.mono a14.size)
  have Z15 := Lib.hid (show w14.heap.size ≤ w15.heap.size by have := hb15.size; (try simp at this); omega)
  have W_11 := Lib.hid (W_10.out.keep hb15)
  clear W_10
  have G_9 := Lib.hid (G_8.out.keep hb15)
  clear G_8
  have H_1 := Lib.hid (H_0.out.keep hb15)
  clear H_0
  go_wp2_with fail
  refine (heldStepS_own _ _ _ 1 (by omega) (by omega) _ hlr G_9.out).mono ?_
  rintro e w' ⟨rfl, rfl⟩
  go_wp2
  go_ret
  exact ⟨rfl, a15⟩
end Go.Proofs.Ytfedffekbemcoaa
