/- The exact law of OrderTo: the walk (written by program). -/
import Derived.Test.YtfedffekbemcoaaOr4
import Derived.Test.YtfedffekbemcoaaOr5
import Derived.Test.YtfedffekbemcoaaOrB
import Derived.Deep.DeepCutAuto
namespace Go.Proofs.Ytfedffekbemcoaa
open Go.ChangeShapes Go.WideShapes Go.ChangeAt Go.RowKit

set_option maxRecDepth 100000 in
set_option maxHeartbeats 4000000 in
theorem exactOrderTo_walk (w : World) (A0 : Option Addr) (n0 c0 : Nat) (xs0 : List Bool) (_hnc0 : n0 ≤ c0) (_hc0 : c0 ≤ 9223372036854775807) (hr0 : RowT w A0 n0 xs0) (A1 : Option Addr) (n1 c1 : Nat) (xs1 : List Bool) (_hnc1 : n1 ≤ c1) (_hc1 : c1 ≤ 9223372036854775807) (hr1 : RowT w A1 n1 xs1) :
    Calls Try.prog 4 #[.slice A0 n0 c0, .slice A1 n1 c1] w fun e w' => e = .returned (.bool true) ∧ Below w.heap.size w w' := by
  have HR0 := Lib.hid hr0
  have HL0 := Lib.hid hr0.len
  clear hr0
  have HR1 := Lib.hid hr1
  have HL1 := Lib.hid hr1.len
  clear hr1
  by_cases h0 : n0 ≤ 1048576
  rotate_left
  · have hbig : (1048576 : Int) < (n0 : Int) := by omega
    go_enter Try.func4, Try.ntmps4
    go_wp2
    go_ret
    exact ⟨rfl, Below.refl _ _⟩
  by_cases h1 : n1 ≤ 1048576
  rotate_left
  · have hbig : (1048576 : Int) < (n1 : Int) := by omega
    go_enter Try.func4, Try.ntmps4
    go_wp2
    go_ret
    exact ⟨rfl, Below.refl _ _⟩
  go_enter Try.func4, Try.ntmps4
  go_wp2_with fail
  refine (toBoolS_any A0 n0 c0 xs0 _ h0 (HR0.out)).mono ?_
  rintro e w1 ⟨rfl, hO, hb1, hss0⟩
  try simp only [World.size_alloc] at hO
  have a1 : Below w.heap.size w w1 := hb1
  have Z1 := Lib.hid (show w.heap.size ≤ w1.heap.size by have := hb1.size; (try simp at this); omega)
  clear hss0
  have Bs0 := Lib.hid hO.lt
  have Os0_0 := Lib.hid hO
  clear hO
  go_wp2_with fail
  refine (toBoolS_any A1 n1 c1 xs1 _ h1 (HR1.out.below a1)).mono ?_
  rintro e w2 ⟨rfl, hO, hb2, hss1⟩
  try simp only [World.size_alloc] at hO
  have a2 : Below w.heap.size w w2 := a1.trans (hb2.mono a1.size)
  have Z2 := Lib.hid (show w1.heap.size ≤ w2.heap.size by have := hb2.size; (try simp at this); omega)
  have Os0_1 := Lib.hid (Os0_0.out.keep hb2)
  clear Os0_0
  clear hss1
  have Bs1 := Lib.hid hO.lt
  have Os1_0 := Lib.hid hO
  clear hO
  go_wp2_with fail
  refine (specOrderTo_any _ n0 n0 xs0 _ n1 n1 xs1 _ h0 (Os0_1.out.rowT) h1 (Os1_0.out.rowT)).mono ?_
  rintro e w3 ⟨vW, rfl, hO, hb3⟩
  try simp only [World.size_alloc] at hO
  have a3 : Below w.heap.size w w3 := a2.trans (hb3.mono a2.size)
  have Z3 := Lib.hid (show w2.heap.size ≤ w3.heap.size by have := hb3.size; (try simp at this); omega)
  have Os0_2 := Lib.hid (Os0_1.out.keep hb3)
  clear Os0_1
  have Os1_1 := Lib.hid (Os1_0.out.keep hb3)
  clear Os1_0
  have BW := Lib.hid hO.lt
  have W_0 := Lib.hid hO
  clear hO
  go_wp2_with fail
  refine (toBoolS_any A0 n0 c0 xs0 _ h0 (HR0.out.below a3)).mono ?_
  rintro e w4 ⟨rfl, hO, hb4, hsx0⟩
  try simp only [World.size_alloc] at hO
  have a4 : Below w.heap.size w w4 := a3.trans (hb4.mono a3.size)
  have Z4 := Lib.hid (show w3.heap.size ≤ w4.heap.size by have := hb4.size; (try simp at this); omega)
  have W_1 := Lib.hid (W_0.out.keep hb4)
  clear W_0
  clear hsx0
  have Bx0 := Lib.hid hO.lt
  have Ox0_0 := Lib.hid hO
  clear hO
  go_wp2_with fail
  refine (toBoolS_any A1 n1 c1 xs1 _ h1 (HR1.out.below a4)).mono ?_
  rintro e w5 ⟨rfl, hO, hb5, hsx1⟩
  try simp only [World.size_alloc] at hO
  have a5 : Below w.heap.size w w5 := a4.trans (hb5.mono a4.size)
  have Z5 := Lib.hid (show w4.heap.size ≤ w5.heap.size by have := hb5.size; (try simp at this); omega)
  have W_2 := Lib.hid (W_1.out.keep hb5)
  clear W_1
  have Ox0_1 := Lib.hid (Ox0_0.out.keep hb5)
  clear Ox0_0
  clear hsx1
  have Bx1 := Lib.hid hO.lt
  have Ox1_0 := Lib.hid hO
  clear hO
  go_wp2_with fail
  refine (orderTo_any _ n0 n0 xs0 _ n1 n1 xs1 _ h0 (Ox0_1.out.rowT) h1 (Ox1_0.out.rowT)).mono ?_
  rintro e w6 ⟨vG, rfl, hO, hb6⟩
  try simp only [World.size_alloc] at hO
  have a6 : Below w.heap.size w w6 := a5.trans (hb6.mono a5.size)
  have Z6 := Lib.hid (show w5.heap.size ≤ w6.heap.size by have := hb6.size; (try simp at this); omega)
  have W_3 := Lib.hid (W_2.out.keep hb6)
  clear W_2
  have Ox0_2 := Lib.hid (Ox0_1.out.keep hb6)
  clear Ox0_1
  have Ox1_1 := Lib.hid (Ox1_0.out.keep hb6)
  clear Ox1_0
  have BG := Lib.hid hO.lt
  have G_0 := Lib.hid hO
  clear hO
  go_wp2_with fail
  refine (eqStepS_own (Nat.le_trans (toO_len xs0 xs1) (by omega)) G_0.out W_3.out).mono ?_
  rintro e w7 ⟨rfl, hb7⟩
  have a7 : Below w.heap.size w w7 := a6.trans (hb7.mono a6.size)
  have Z7 := Lib.hid (show w6.heap.size ≤ w7.heap.size by have := hb7.size; (try simp at this); omega)
  have W_4 := Lib.hid (W_3.out.keep hb7)
  clear W_3
  have Ox0_3 := Lib.hid (Ox0_2.out.keep hb7)
  clear Ox0_2
  have Ox1_2 := Lib.hid (Ox1_1.out.keep hb7)
  clear Ox1_1
  have G_1 := Lib.hid (G_0.out.keep hb7)
  clear G_0
  go_wp2_with fail
  refine (toBoolS_any A0 n0 c0 xs0 _ h0 (HR0.out.below a7)).mono ?_
  rintro e w8 ⟨rfl, hO, hb8, hsy0⟩
  try simp only [World.size_alloc] at hO
  have a8 : Below w.heap.size w w8 := a7.trans (hb8.mono a7.size)
  have Z8 := Lib.hid (show w7.heap.size ≤ w8.heap.size by have := hb8.size; (try simp at this); omega)
  have W_5 := Lib.hid (W_4.out.keep hb8)
  clear W_4
  have Ox0_4 := Lib.hid (Ox0_3.out.keep hb8)
  clear Ox0_3
  have Ox1_3 := Lib.hid (Ox1_2.out.keep hb8)
  clear Ox1_2
  have G_2 := Lib.hid (G_1.out.keep hb8)
  clear G_1
  clear hsy0
  have By0 := Lib.hid hO.lt
  have Oy0_0 := Lib.hid hO
  clear hO
  go_wp2_with fail
  refine (eqBoolS_own (by rw [HL0.out]; exact h0) Ox0_4.out Oy0_0.out).mono ?_
  rintro e w9 ⟨rfl, hb9⟩
  have a9 : Below w.heap.size w w9 := a8.trans (hb9.mono a8.size)
  have Z9 := Lib.hid (show w8.heap.size ≤ w9.heap.size by have := hb9.size; (try simp at this); omega)
  have W_6 := Lib.hid (W_5.out.keep hb9)
  clear W_5
  have Ox0_5 := Lib.hid (Ox0_4.out.keep hb9)
  clear Ox0_4
  have Ox1_4 := Lib.hid (Ox1_3.out.keep hb9)
  clear Ox1_3
  have G_3 := Lib.hid (G_2.out.keep hb9)
  clear G_2
  have Oy0_1 := Lib.hid (Oy0_0.out.keep hb9)
  clear Oy0_0
  go_wp2_with fail
  refine (toBoolS_any A1 n1 c1 xs1 _ h1 (HR1.out.below a9)).mono ?_
  rintro e w10 ⟨rfl, hO, hb10, hsy1⟩
  try simp only [World.size_alloc] at hO
  have a10 : Below w.heap.size w w10 := a9.trans (hb10.mono a9.size)
  have Z10 := Lib.hid (show w9.heap.size ≤ w10.heap.size by have := hb10.size; (try simp at this); omega)
  have W_7 := Lib.hid (W_6.out.keep hb10)
  clear W_6
  have Ox0_6 := Lib.hid (Ox0_5.out.keep hb10)
  clear Ox0_5
  have Ox1_5 := Lib.hid (Ox1_4.out.keep hb10)
  clear Ox1_4
  have G_4 := Lib.hid (G_3.out.keep hb10)
  clear G_3
  clear hsy1
  have By1 := Lib.hid hO.lt
  have Oy1_0 := Lib.hid hO
  clear hO
  go_wp2_with fail
  refine (eqBoolS_own (by rw [HL1.out]; exact h1) Ox1_5.out Oy1_0.out).mono ?_
  rintro e w11 ⟨rfl, hb11⟩
  have a11 : Below w.heap.size w w11 := a10.trans (hb11.mono a10.size)
  have Z11 := Lib.hid (show w10.heap.size ≤ w11.heap.size by have := hb11.size; (try simp at this); omega)
  have W_8 := Lib.hid (W_7.out.keep hb11)
  clear W_7
  have Ox0_7 := Lib.hid (Ox0_6.out.keep hb11)
  clear Ox0_6
  have Ox1_6 := Lib.hid (Ox1_5.out.keep hb11)
  clear Ox1_5
  have G_5 := Lib.hid (G_4.out.keep hb11)
  clear G_4
  have Oy1_1 := Lib.hid (Oy1_0.out.keep hb11)
  clear Oy1_0
  go_wp2_with fail
  refine (markBoolS_any _ xs0 _ 1 (by omega) (by omega) _ (by rw [HL0.out]; exact h0) Ox0_7.out).mono ?_
  rintro e w12 ⟨rfl, hO, hg12⟩
  have a12 : Below w.heap.size w w12 := a11.grown hg12 a11.size (fun q hq => by have := Z1.out; have := Z2.out; have := Z3.out; have := Z4.out; have := Z5.out; have := Z6.out; have := Z7.out; have := Z8.out; have := Z9.out; have := Z10.out; have := Z11.out; have := Bx0.out _ hq; omega)
  have Z12 := Lib.hid (show w11.heap.size ≤ w12.heap.size by have := hg12.size; (try simp at this); omega)
  have W_9 := Lib.hid (W_8.out.far hg12 (fun q hq e => by have := Z1.out; have := Z2.out; have := Z3.out; have := Z4.out; have := Z5.out; have := Z6.out; have := Z7.out; have := Z8.out; have := Z9.out; have := Z10.out; have := Z11.out; have := Z12.out; have := Bx0.out _ e; have := BW.out q hq; omega))
  clear W_8
  have Ox1_7 := Lib.hid (Ox1_6.out.far hg12 (fun q hq e => by have := Z1.out; have := Z2.out; have := Z3.out; have := Z4.out; have := Z5.out; have := Z6.out; have := Z7.out; have := Z8.out; have := Z9.out; have := Z10.out; have := Z11.out; have := Z12.out; have := Bx0.out _ e; have := Bx1.out q hq; omega))
  clear Ox1_6
  have G_6 := Lib.hid (G_5.out.far hg12 (fun q hq e => by have := Z1.out; have := Z2.out; have := Z3.out; have := Z4.out; have := Z5.out; have := Z6.out; have := Z7.out; have := Z8.out; have := Z9.out; have := Z10.out; have := Z11.out; have := Z12.out; have := Bx0.out _ e; have := BG.out q hq; omega))
  clear G_5
  clear hO
  have hlen0 : xs0.length ≤ 1048576 := by rw [HL0.out]; exact h0
  go_wp2_with fail
  refine (markBoolS_any _ xs1 _ (1 + (xs0.length : Int)) (by omega) (by omega) _ (by rw [HL1.out]; exact h1) Ox1_7.out).mono ?_
  rintro e w13 ⟨rfl, hO, hg13⟩
  have a13 : Below w.heap.size w w13 := a12.grown hg13 a12.size (fun q hq => by have := Z1.out; have := Z2.out; have := Z3.out; have := Z4.out; have := Z5.out; have := Z6.out; have := Z7.out; have := Z8.out; have := Z9.out; have := Z10.out; have := Z11.out; have := Z12.out; have := Bx1.out _ hq; omega)
  have Z13 := Lib.hid (show w12.heap.size ≤ w13.heap.size by have := hg13.size; (try simp at this); omega)
  have W_10 := Lib.hid (W_9.out.far hg13 (fun q hq e => by have := Z1.out; have := Z2.out; have := Z3.out; have := Z4.out; have := Z5.out; have := Z6.out; have := Z7.out; have := Z8.out; have := Z9.out; have := Z10.out; have := Z11.out; have := Z12.out; have := Z13.out; have := Bx1.out _ e; have := BW.out q hq; omega))
  clear W_9
  have G_7 := Lib.hid (G_6.out.far hg13 (fun q hq e => by have := Z1.out; have := Z2.out; have := Z3.out; have := Z4.out; have := Z5.out; have := Z6.out; have := Z7.out; have := Z8.out; have := Z9.out; have := Z10.out; have := Z11.out; have := Z12.out; have := Z13.out; have := Bx1.out _ e; have := BG.out q hq; omega))
  clear G_6
  clear hO
  have hlen1 : xs1.length ≤ 1048576 := by rw [HL1.out]; exact h1
  have hm1 : ¬ (((1 + (xs0.length : Int)) + (xs1.length : Int)) < 0) := by omega
  go_wp2_with fail
  refine (eqStepS_own (Nat.le_trans (toO_len xs0 xs1) (by omega)) G_7.out W_10.out).mono ?_
  rintro e w14 ⟨rfl, hb14⟩
  have a14 : Below w.heap.size w w14 := a13.trans (hb14.mono a13.size)
  have Z14 := Lib.hid (show w13.heap.size ≤ w14.heap.size by have := hb14.size; (try simp at this); omega)
  have W_11 := Lib.hid (W_10.out.keep hb14)
  clear W_10
  have G_8 := Lib.hid (G_7.out.keep hb14)
  clear G_7
  go_wp2_with fail
  refine (markStepS_own _ _ _ 1 (by omega) (by omega) _ (Nat.le_trans (toO_len xs0 xs1) (by omega)) G_8.out).mono ?_
  rintro e w15 ⟨rfl, hO, hg15⟩
  have a15 : Below w.heap.size w w15 := a14.grown hg15 a14.size (fun q hq => by have := Z1.out; have := Z2.out; have := Z3.out; have := Z4.out; have := Z5.out; have := Z6.out; have := Z7.out; have := Z8.out; have := Z9.out; have := Z10.out; have := Z11.out; have := Z12.out; have := Z13.out; have := Z14.out; have := BG.out _ hq; omega)
  have Z15 := Lib.hid (show w14.heap.size ≤ w15.heap.size by have := hg15.size; (try simp at this); omega)
  have W_12 := Lib.hid (W_11.out.far hg15 (fun q hq e => by have := Z1.out; have := Z2.out; have := Z3.out; have := Z4.out; have := Z5.out; have := Z6.out; have := Z7.out; have := Z8.out; have := Z9.out; have := Z10.out; have := Z11.out; have := Z12.out; have := Z13.out; have := Z14.out; have := Z15.out; have := BG.out _ e; have := BW.out q hq; omega))
  clear W_11
  clear G_8
  have G_9 := Lib.hid hO
  clear hO
  have hlr : (toO xs0 xs1).length ≤ 1048576 := (Nat.le_trans (toO_len xs0 xs1) (by omega))
  have hm2 : ¬ ((1 : Int) + 2 * ((toO xs0 xs1).length : Int) < 0) := by omega
  go_wp2_with fail
  refine (heldStepS_own _ _ _ 1 (by omega) (by omega) _ hlr G_9.out).mono ?_
  rintro e w' ⟨rfl, rfl⟩
  go_wp2_with fail
  refine (toBoolS_any A0 n0 c0 xs0 _ h0 (HR0.out.below a15)).mono ?_
  rintro e w17 ⟨rfl, hO, hb17, hsz0⟩
  try simp only [World.size_alloc] at hO
  have a17 : Below w.heap.size w w17 := a15.trans (hb17.mono a15.size)
  have Z17 := Lib.hid (show w15.heap.size ≤ w17.heap.size by have := hb17.size; (try simp at this); omega)
  have W_13 := Lib.hid (W_12.out.keep hb17)
  clear W_12
  have G_10 := Lib.hid (G_9.out.keep hb17)
  clear G_9
  clear hsz0
  have Bz0 := Lib.hid hO.lt
  have Oz0_0 := Lib.hid hO
  clear hO
  go_wp2_with fail
  refine (toBoolS_any A1 n1 c1 xs1 _ h1 (HR1.out.below a17)).mono ?_
  rintro e w18 ⟨rfl, hO, hb18, hsz1⟩
  try simp only [World.size_alloc] at hO
  have a18 : Below w.heap.size w w18 := a17.trans (hb18.mono a17.size)
  have Z18 := Lib.hid (show w17.heap.size ≤ w18.heap.size by have := hb18.size; (try simp at this); omega)
  have W_14 := Lib.hid (W_13.out.keep hb18)
  clear W_13
  have G_11 := Lib.hid (G_10.out.keep hb18)
  clear G_10
  have Oz0_1 := Lib.hid (Oz0_0.out.keep hb18)
  clear Oz0_0
  clear hsz1
  have Bz1 := Lib.hid hO.lt
  have Oz1_0 := Lib.hid hO
  clear hO
  go_wp2_with fail
  refine (orderTo_any _ n0 n0 xs0 _ n1 n1 xs1 _ h0 (Oz0_1.out.rowT) h1 (Oz1_0.out.rowT)).mono ?_
  rintro e w19 ⟨vH, rfl, hO, hb19⟩
  try simp only [World.size_alloc] at hO
  have a19 : Below w.heap.size w w19 := a18.trans (hb19.mono a18.size)
  have Z19 := Lib.hid (show w18.heap.size ≤ w19.heap.size by have := hb19.size; (try simp at this); omega)
  have W_15 := Lib.hid (W_14.out.keep hb19)
  clear W_14
  have G_12 := Lib.hid (G_11.out.keep hb19)
  clear G_11
  have Oz0_2 := Lib.hid (Oz0_1.out.keep hb19)
  clear Oz0_1
  have Oz1_1 := Lib.hid (Oz1_0.out.keep hb19)
  clear Oz1_0
  have BH := Lib.hid hO.lt
  have H_0 := Lib.hid hO
  clear hO
  go_wp2_with fail
  refine (eqStepS_own (Nat.le_trans (toO_len xs0 xs1) (by omega)) H_0.out W_15.out).mono ?_
  rintro e w20 ⟨rfl, hb20⟩
  have a20 : Below w.heap.size w w20 := a19.trans (hb20.mono a19.size)
  have Z20 := Lib.hid (show w19.heap.size ≤ w20.heap.size by have := hb20.size; (try simp at this); omega)
  have W_16 := Lib.hid (W_15.out.keep hb20)
  clear W_15
  have G_13 := Lib.hid (G_12.out.keep hb20)
  clear G_12
  have H_1 := Lib.hid (H_0.out.keep hb20)
  clear H_0
  go_wp2_with fail
  refine (heldStepS_own _ _ _ 1 (by omega) (by omega) _ hlr G_13.out).mono ?_
  rintro e w' ⟨rfl, rfl⟩
  go_wp2
  go_ret
  exact ⟨rfl, a20⟩
end Go.Proofs.Ytfedffekbemcoaa
