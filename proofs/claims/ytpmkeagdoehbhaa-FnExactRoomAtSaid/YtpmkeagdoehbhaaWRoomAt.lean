/- The exact law of RoomAt: the walk (written by program). -/
import Derived.Test.YtpmkeagdoehbhaaA3
import Derived.Test.YtpmkeagdoehbhaaBCC
import Derived.Test.YtpmkeagdoehbhaaA5
import Derived.Test.YtpmkeagdoehbhaaSU1
import Derived.Test.YtpmkeagdoehbhaaX3
import Derived.Test.YtpmkeagdoehbhaaX6
import Derived.Deep.DeepCutAuto
namespace Go.Proofs.Ytpmkeagdoehbhaa
open Go.ChangeShapes Go.WideShapes Go.ChangeAt Go.RowKit

set_option maxRecDepth 100000 in
set_option maxHeartbeats 4000000 in
theorem exactRoomAt_walk (w : World) (bs0 : Int) (A0 : Option Addr) (n0 c0 : Nat) (ls0 : List L3) (hn0 : n0 ≤ 9223372036854775807) (hr0 : RowL w A0 n0 ls0) (A1 : Option Addr) (n1 c1 : Nat) (xs1 : List Bool) (_hnc1 : n1 ≤ c1) (_hc1 : c1 ≤ 9223372036854775807) (hr1 : RowT w A1 n1 xs1) (A2 : Option Addr) (n2 c2 : Nat) (us2 : List TU) (hn2 : n2 ≤ 9223372036854775807) (hr2 : RowU w A2 n2 us2) (A3 : Option Addr) (n3 c3 : Nat) (xs3 : List Int) (_hnc3 : n3 ≤ c3) (_hc3 : c3 ≤ 9223372036854775807) (hr3 : RowZ w A3 n3 xs3) (x4 : Int) (x5 : Int) :
    Calls Try.prog 6 #[.agg #[.int .i64 bs0, .slice A0 n0 c0], .slice A1 n1 c1, .slice A2 n2 c2, .slice A3 n3 c3, .int .i64 x4, .int .i64 x5] w fun e w' => e = .returned (.bool true) ∧ Below w.heap.size w w' := by
  have HR0 := Lib.hid hr0
  have HL0 := Lib.hid hr0.1
  clear hr0
  have HR1 := Lib.hid hr1
  have HL1 := Lib.hid hr1.len
  clear hr1
  have HR2 := Lib.hid hr2
  have HL2 := Lib.hid hr2.len
  clear hr2
  have HR3 := Lib.hid hr3
  have HL3 := Lib.hid hr3.len
  clear hr3
  by_cases h1 : n1 ≤ 1048576
  rotate_left
  · have hbig : (1048576 : Int) < (n1 : Int) := by omega
    go_enter Try.func6, Try.ntmps6
    go_wp2
    go_ret
    exact ⟨rfl, below_bx w _⟩
  by_cases h3 : n3 ≤ 1048576
  rotate_left
  · have hbig : (1048576 : Int) < (n3 : Int) := by omega
    go_enter Try.func6, Try.ntmps6
    go_wp2
    go_ret
    exact ⟨rfl, below_bx w _⟩
  by_cases h0 : n0 ≤ 1048576
  rotate_left
  · go_enter Try.func6, Try.ntmps6
    go_wp2_with fail
    refine (szNet_any bs0 A0 n0 c0 hn0 _).mono ?_
    rintro e w1 ⟨rfl, hb1⟩
    simp only [h0, if_false]
    go_wp2
    go_ret
    exact ⟨rfl, (below_bx w _).trans (hb1.mono (by simp))⟩
  by_cases H2 : (n2 : Int) ≤ ((1048576 : Int) - (n0 : Int))
  rotate_left
  · go_enter Try.func6, Try.ntmps6
    go_wp2_with fail
    refine (szNet_any bs0 A0 n0 c0 hn0 _).mono ?_
    rintro e w1 ⟨rfl, hb1⟩
    simp only [h0, if_true]
    have hps2 : ¬ (((1048576 : Int) - (n0 : Int)) < 0) := by omega
    go_wp2_with fail
    refine (szBusS_any A2 n2 c2 ((1048576 : Int) - (n0 : Int)) (by omega) (by omega) hn2 _).mono ?_
    rintro e w' ⟨rfl, rfl⟩
    go_wp2
    go_ret
    exact ⟨rfl, (below_bx w _).trans (hb1.mono (by simp))⟩
  have h2 : n2 ≤ 1048576 := by omega
  go_enter Try.func6, Try.ntmps6
  go_wp2_with fail
  have K_0 := Lib.hid (IsBlk.new w 24 #[.int .i64 bs0, .slice A0 n0 c0])
  have hpos : ¬ ((1048576 : Int) - (n0 : Int) < 0) := by omega
  refine (szNet_any bs0 A0 n0 c0 hn0 _).mono ?_
  rintro e w1 ⟨rfl, hb1⟩
  simp only [h0, if_true]
  have a1 : Below w.heap.size w w1 := (below_bx w (.cells #[.int .i64 bs0, .slice A0 n0 c0] 24)).trans (hb1.mono (below_bx w (.cells #[.int .i64 bs0, .slice A0 n0 c0] 24)).size)
  have Z1 := Lib.hid (show w.heap.size + 1 ≤ w1.heap.size by have := hb1.size; (try simp at this); omega)
  have K_1 := Lib.hid (K_0.out.keep hb1)
  clear K_0
  obtain ⟨K0, K1, K2, K3⟩ := K_1.out.two
  go_wp2_with fail
  refine (szBusS_any A2 n2 c2 ((1048576 : Int) - (n0 : Int)) (by omega) (by omega) hn2 _).mono ?_
  rintro e w' ⟨rfl, rfl⟩
  clear K0 K1 K2 K3
  simp only [H2, if_true]
  have hps2 : ¬ (((1048576 : Int) - (n0 : Int)) - (n2 : Int) < 0) := by omega
  obtain ⟨K0, K1, K2, K3⟩ := K_1.out.two
  go_wp2_with fail
  refine (toNet_any bs0 A0 n0 c0 ls0 _ h0 (HR0.out.below a1)).mono ?_
  rintro e w3 ⟨gs0, rfl, hb3, hgs0, hks0⟩
  clear K0 K1 K2 K3
  have a3 : Below w.heap.size w w3 := a1.trans (hb3.mono a1.size)
  have Z3 := Lib.hid (show w1.heap.size ≤ w3.heap.size by have := hb3.size; (try simp at this); omega)
  have K_2 := Lib.hid (K_1.out.keep hb3)
  clear K_1
  have hlts0 := hks0.lt
  have Ys0_0 := Lib.hid hks0
  clear hks0
  have Bs0 := Lib.hid (show w1.heap.size ≤ gs0 ∧ gs0 < w3.heap.size from ⟨by simpa using hgs0, hlts0⟩)
  clear hgs0 hlts0
  obtain ⟨K0, K1, K2, K3⟩ := K_2.out.two
  go_wp2_with fail
  refine (toBoolS_any A1 n1 c1 xs1 _ h1 (HR1.out.below a3)).mono ?_
  rintro e w4 ⟨rfl, hO, hb4, hss1⟩
  clear K0 K1 K2 K3
  try simp only [World.size_alloc] at hO
  have a4 : Below w.heap.size w w4 := a3.trans (hb4.mono a3.size)
  have Z4 := Lib.hid (show w3.heap.size ≤ w4.heap.size by have := hb4.size; (try simp at this); omega)
  have K_3 := Lib.hid (K_2.out.keep hb4)
  clear K_2
  have Ys0_1 := Lib.hid (Ys0_0.out.keep hb4)
  clear Ys0_0
  clear hss1
  have Bs1 := Lib.hid hO.lt
  have Os1_0 := Lib.hid hO
  clear hO
  obtain ⟨K0, K1, K2, K3⟩ := K_3.out.two
  go_wp2_with fail
  refine (toBusS_any A2 n2 c2 us2 _ h2 (HR2.out.below a4)).mono ?_
  rintro e w5 ⟨gs2, rfl, hb5, hgs2, hks2⟩
  clear K0 K1 K2 K3
  have a5 : Below w.heap.size w w5 := a4.trans (hb5.mono a4.size)
  have Z5 := Lib.hid (show w4.heap.size ≤ w5.heap.size by have := hb5.size; (try simp at this); omega)
  have K_4 := Lib.hid (K_3.out.keep hb5)
  clear K_3
  have Ys0_2 := Lib.hid (Ys0_1.out.keep hb5)
  clear Ys0_1
  have Os1_1 := Lib.hid (Os1_0.out.keep hb5)
  clear Os1_0
  have hlts2 := hks2.lt
  have Ys2_0 := Lib.hid hks2
  clear hks2
  have Bs2 := Lib.hid (show w4.heap.size ≤ gs2 ∧ gs2 < w5.heap.size from ⟨by simpa using hgs2, hlts2⟩)
  clear hgs2 hlts2
  obtain ⟨K0, K1, K2, K3⟩ := K_4.out.two
  go_wp2_with fail
  refine (toIntS_any A3 n3 c3 xs3 _ h3 (HR3.out.below a5)).mono ?_
  rintro e w6 ⟨rfl, hO, hb6, hss3⟩
  clear K0 K1 K2 K3
  try simp only [World.size_alloc] at hO
  have a6 : Below w.heap.size w w6 := a5.trans (hb6.mono a5.size)
  have Z6 := Lib.hid (show w5.heap.size ≤ w6.heap.size by have := hb6.size; (try simp at this); omega)
  have K_5 := Lib.hid (K_4.out.keep hb6)
  clear K_4
  have Ys0_3 := Lib.hid (Ys0_2.out.keep hb6)
  clear Ys0_2
  have Os1_2 := Lib.hid (Os1_1.out.keep hb6)
  clear Os1_1
  have Ys2_1 := Lib.hid (Ys2_0.out.keep hb6)
  clear Ys2_0
  clear hss3
  have Bs3 := Lib.hid hO.lt
  have Os3_0 := Lib.hid hO
  clear hO
  obtain ⟨K0, K1, K2, K3⟩ := K_5.out.two
  go_wp2_with fail
  refine (specRoomAt_any bs0 _ n0 n0 ls0 _ n1 n1 xs1 _ n2 n2 us2 _ n3 n3 xs3 x4 x5 _ h0 (Ys0_3.out.row HL0.out) h1 (Os1_2.out.rowT) h2 (Ys2_1.out.rowU HL2.out) h3 (Os3_0.out.rowZ)).mono ?_
  rintro e w7 ⟨rfl, hb7⟩
  clear K0 K1 K2 K3
  have a7 : Below w.heap.size w w7 := a6.trans (hb7.mono a6.size)
  have Z7 := Lib.hid (show w6.heap.size ≤ w7.heap.size by have := hb7.size; (try simp at this); omega)
  have K_6 := Lib.hid (K_5.out.keep hb7)
  clear K_5
  have Ys0_4 := Lib.hid (Ys0_3.out.keep hb7)
  clear Ys0_3
  have Os1_3 := Lib.hid (Os1_2.out.keep hb7)
  clear Os1_2
  have Ys2_2 := Lib.hid (Ys2_1.out.keep hb7)
  clear Ys2_1
  have Os3_1 := Lib.hid (Os3_0.out.keep hb7)
  clear Os3_0
  obtain ⟨K0, K1, K2, K3⟩ := K_6.out.two
  go_wp2_with fail
  refine (toNet_any bs0 A0 n0 c0 ls0 _ h0 (HR0.out.below a7)).mono ?_
  rintro e w8 ⟨gx0, rfl, hb8, hgx0, hkx0⟩
  clear K0 K1 K2 K3
  have a8 : Below w.heap.size w w8 := a7.trans (hb8.mono a7.size)
  have Z8 := Lib.hid (show w7.heap.size ≤ w8.heap.size by have := hb8.size; (try simp at this); omega)
  have K_7 := Lib.hid (K_6.out.keep hb8)
  clear K_6
  have hltx0 := hkx0.lt
  have Yx0_0 := Lib.hid hkx0
  clear hkx0
  have Bx0 := Lib.hid (show w7.heap.size ≤ gx0 ∧ gx0 < w8.heap.size from ⟨by simpa using hgx0, hltx0⟩)
  clear hgx0 hltx0
  obtain ⟨K0, K1, K2, K3⟩ := K_7.out.two
  go_wp2_with fail
  clear K0 K1 K2 K3
  have X_0 := Lib.hid (IsBlk.new w8 33 #[.int .i64 bs0, .slice (some ⟨gx0, 0, none⟩) n0 n0])
  have K_8 := Lib.hid (K_7.out.alloc (.cells #[.int .i64 bs0, .slice (some ⟨gx0, 0, none⟩) n0 n0] 33))
  clear K_7
  have Yx0_1 := Lib.hid (Yx0_0.out.alloc (.cells #[.int .i64 bs0, .slice (some ⟨gx0, 0, none⟩) n0 n0] 33))
  clear Yx0_0
  have aX : Below w.heap.size w (w8.alloc (.cells #[.int .i64 bs0, .slice (some ⟨gx0, 0, none⟩) n0 n0] 33)) := a8.alloc a8.size _
  refine (toBoolS_any A1 n1 c1 xs1 _ h1 (HR1.out.below aX)).mono ?_
  rintro e w9 ⟨rfl, hO, hb9, hsx1⟩
  try simp only [World.size_alloc] at hO
  have a9 : Below w.heap.size w w9 := aX.trans (hb9.mono aX.size)
  have Z9 := Lib.hid (show w8.heap.size + 1 ≤ w9.heap.size by have := hb9.size; (try simp at this); omega)
  have K_9 := Lib.hid (K_8.out.keep hb9)
  clear K_8
  have Yx0_2 := Lib.hid (Yx0_1.out.keep hb9)
  clear Yx0_1
  have X_1 := Lib.hid (X_0.out.keep hb9)
  clear X_0
  clear hsx1
  have Bx1 := Lib.hid hO.lt
  have Ox1_0 := Lib.hid hO
  clear hO
  obtain ⟨K0, K1, K2, K3⟩ := K_9.out.two
  obtain ⟨X0, X1, X2, X3⟩ := X_1.out.two
  go_wp2_with fail
  refine (toBusS_any A2 n2 c2 us2 _ h2 (HR2.out.below a9)).mono ?_
  rintro e w10 ⟨gx2, rfl, hb10, hgx2, hkx2⟩
  clear K0 K1 K2 K3
  clear X0 X1 X2 X3
  have a10 : Below w.heap.size w w10 := a9.trans (hb10.mono a9.size)
  have Z10 := Lib.hid (show w9.heap.size ≤ w10.heap.size by have := hb10.size; (try simp at this); omega)
  have K_10 := Lib.hid (K_9.out.keep hb10)
  clear K_9
  have Yx0_3 := Lib.hid (Yx0_2.out.keep hb10)
  clear Yx0_2
  have X_2 := Lib.hid (X_1.out.keep hb10)
  clear X_1
  have Ox1_1 := Lib.hid (Ox1_0.out.keep hb10)
  clear Ox1_0
  have hltx2 := hkx2.lt
  have Yx2_0 := Lib.hid hkx2
  clear hkx2
  have Bx2 := Lib.hid (show w9.heap.size ≤ gx2 ∧ gx2 < w10.heap.size from ⟨by simpa using hgx2, hltx2⟩)
  clear hgx2 hltx2
  obtain ⟨K0, K1, K2, K3⟩ := K_10.out.two
  obtain ⟨X0, X1, X2, X3⟩ := X_2.out.two
  go_wp2_with fail
  refine (toIntS_any A3 n3 c3 xs3 _ h3 (HR3.out.below a10)).mono ?_
  rintro e w11 ⟨rfl, hO, hb11, hsx3⟩
  clear K0 K1 K2 K3
  clear X0 X1 X2 X3
  try simp only [World.size_alloc] at hO
  have a11 : Below w.heap.size w w11 := a10.trans (hb11.mono a10.size)
  have Z11 := Lib.hid (show w10.heap.size ≤ w11.heap.size by have := hb11.size; (try simp at this); omega)
  have K_11 := Lib.hid (K_10.out.keep hb11)
  clear K_10
  have Yx0_4 := Lib.hid (Yx0_3.out.keep hb11)
  clear Yx0_3
  have X_3 := Lib.hid (X_2.out.keep hb11)
  clear X_2
  have Ox1_2 := Lib.hid (Ox1_1.out.keep hb11)
  clear Ox1_1
  have Yx2_1 := Lib.hid (Yx2_0.out.keep hb11)
  clear Yx2_0
  clear hsx3
  have Bx3 := Lib.hid hO.lt
  have Ox3_0 := Lib.hid hO
  clear hO
  obtain ⟨K0, K1, K2, K3⟩ := K_11.out.two
  obtain ⟨X0, X1, X2, X3⟩ := X_3.out.two
  go_wp2_with fail
  refine (roomAt_any bs0 _ n0 n0 ls0 _ n1 n1 xs1 _ n2 n2 us2 _ n3 n3 xs3 x4 x5 _ h0 (Yx0_4.out.row HL0.out) h1 (Ox1_2.out.rowT) h2 (Yx2_1.out.rowU HL2.out) h3 (Ox3_0.out.rowZ)).mono ?_
  rintro e w12 ⟨rfl, hb12⟩
  clear K0 K1 K2 K3
  clear X0 X1 X2 X3
  have a12 : Below w.heap.size w w12 := a11.trans (hb12.mono a11.size)
  have Z12 := Lib.hid (show w11.heap.size ≤ w12.heap.size by have := hb12.size; (try simp at this); omega)
  have K_12 := Lib.hid (K_11.out.keep hb12)
  clear K_11
  have Yx0_5 := Lib.hid (Yx0_4.out.keep hb12)
  clear Yx0_4
  have X_4 := Lib.hid (X_3.out.keep hb12)
  clear X_3
  have Ox1_3 := Lib.hid (Ox1_2.out.keep hb12)
  clear Ox1_2
  have Yx2_2 := Lib.hid (Yx2_1.out.keep hb12)
  clear Yx2_1
  have Ox3_1 := Lib.hid (Ox3_0.out.keep hb12)
  clear Ox3_0
  obtain ⟨K0, K1, K2, K3⟩ := K_12.out.two
  obtain ⟨X0, X1, X2, X3⟩ := X_4.out.two
  go_upto_region 20 with fail
  have RD := Lib.hid (show RowL w12.drew A0 n0 ls0 from HR0.out.below a12.drew)
  have XD := Lib.hid (show IsBlk w12.drew _ 33 #[.int .i64 bs0, .slice (some ⟨gx0, 0, none⟩) n0 n0] from X_4.out)
  have YD := Lib.hid (show IsBlk w12.drew gx0 70 (rowArr fL ls0) from Yx0_5.out)
  go_cut [69] (fun s wx => s = .bool false ∧ Below w12.heap.size w12 wx)
  case first =>
    go_region_with (first
      | (go_at_call 10; refine (toNet_any bs0 A0 n0 c0 ls0 _ h0 RD.out).mono ?_; rintro e wy ⟨gy, rfl, hby, hgy, hky⟩; obtain ⟨r0, r1, _, _⟩ := (XD.out.keep hby).two; have Y8 := Lib.hid (YD.out.keep hby); have K8 := Lib.hid hky; clear hky)
      | (go_at_call 15; refine (eqNet_same bs0 _ _ n0 n0 n0 ls0 _ h0 (Y8.out.row HL0.out) (K8.out.row HL0.out)).mono ?_; rintro e wz ⟨rfl, hbz⟩))
    all_goals (go_wp2_with fail; go_meet; exact ⟨rfl, (((Below.refl w12.heap.size w12).drew).trans hby).trans (hbz.mono hby.size)⟩)
  case rest =>
    obtain ⟨rfl, hb13⟩ := hcut
    clear K0 K1 K2 K3
    clear X0 X1 X2 X3
    clear RD XD YD
    have a13 : Below w.heap.size w wc := a12.trans (hb13.mono a12.size)
    have Z13 := Lib.hid (show w12.heap.size ≤ wc.heap.size by have := hb13.size; (try simp at this); omega)
    have K_13 := Lib.hid (K_12.out.keep hb13)
    clear K_12
    have Yx0_6 := Lib.hid (Yx0_5.out.keep hb13)
    clear Yx0_5
    have X_5 := Lib.hid (X_4.out.keep hb13)
    clear X_4
    have Ox1_4 := Lib.hid (Ox1_3.out.keep hb13)
    clear Ox1_3
    have Yx2_3 := Lib.hid (Yx2_2.out.keep hb13)
    clear Yx2_2
    have Ox3_2 := Lib.hid (Ox3_1.out.keep hb13)
    clear Ox3_1
    obtain ⟨K0, K1, K2, K3⟩ := K_13.out.two
    obtain ⟨X0, X1, X2, X3⟩ := X_5.out.two
    go_wp2_with fail
    refine (toBoolS_any A1 n1 c1 xs1 _ h1 (HR1.out.below a13)).mono ?_
    rintro e w14 ⟨rfl, hO, hb14, hsy1⟩
    clear K0 K1 K2 K3
    clear X0 X1 X2 X3
    try simp only [World.size_alloc] at hO
    have a14 : Below w.heap.size w w14 := a13.trans (hb14.mono a13.size)
    have Z14 := Lib.hid (show wc.heap.size ≤ w14.heap.size by have := hb14.size; (try simp at this); omega)
    have K_14 := Lib.hid (K_13.out.keep hb14)
    clear K_13
    have Yx0_7 := Lib.hid (Yx0_6.out.keep hb14)
    clear Yx0_6
    have X_6 := Lib.hid (X_5.out.keep hb14)
    clear X_5
    have Ox1_5 := Lib.hid (Ox1_4.out.keep hb14)
    clear Ox1_4
    have Yx2_4 := Lib.hid (Yx2_3.out.keep hb14)
    clear Yx2_3
    have Ox3_3 := Lib.hid (Ox3_2.out.keep hb14)
    clear Ox3_2
    clear hsy1
    have By1 := Lib.hid hO.lt
    have Oy1_0 := Lib.hid hO
    clear hO
    obtain ⟨K0, K1, K2, K3⟩ := K_14.out.two
    obtain ⟨X0, X1, X2, X3⟩ := X_6.out.two
    go_wp2_with fail
    refine (eqBoolS_own (by rw [HL1.out]; exact h1) Ox1_5.out Oy1_0.out).mono ?_
    rintro e w15 ⟨rfl, hb15⟩
    clear K0 K1 K2 K3
    clear X0 X1 X2 X3
    have a15 : Below w.heap.size w w15 := a14.trans (hb15.mono a14.size)
    have Z15 := Lib.hid (show w14.heap.size ≤ w15.heap.size by have := hb15.size; (try simp at this); omega)
    have K_15 := Lib.hid (K_14.out.keep hb15)
    clear K_14
    have Yx0_8 := Lib.hid (Yx0_7.out.keep hb15)
    clear Yx0_7
    have X_7 := Lib.hid (X_6.out.keep hb15)
    clear X_6
    have Ox1_6 := Lib.hid (Ox1_5.out.keep hb15)
    clear Ox1_5
    have Yx2_5 := Lib.hid (Yx2_4.out.keep hb15)
    clear Yx2_4
    have Ox3_4 := Lib.hid (Ox3_3.out.keep hb15)
    clear Ox3_3
    have Oy1_1 := Lib.hid (Oy1_0.out.keep hb15)
    clear Oy1_0
    obtain ⟨K0, K1, K2, K3⟩ := K_15.out.two
    obtain ⟨X0, X1, X2, X3⟩ := X_7.out.two
    go_wp2_with fail
    refine (toBusS_any A2 n2 c2 us2 _ h2 (HR2.out.below a15)).mono ?_
    rintro e w16 ⟨gy2, rfl, hb16, hgy2, hky2⟩
    clear K0 K1 K2 K3
    clear X0 X1 X2 X3
    have a16 : Below w.heap.size w w16 := a15.trans (hb16.mono a15.size)
    have Z16 := Lib.hid (show w15.heap.size ≤ w16.heap.size by have := hb16.size; (try simp at this); omega)
    have K_16 := Lib.hid (K_15.out.keep hb16)
    clear K_15
    have Yx0_9 := Lib.hid (Yx0_8.out.keep hb16)
    clear Yx0_8
    have X_8 := Lib.hid (X_7.out.keep hb16)
    clear X_7
    have Ox1_7 := Lib.hid (Ox1_6.out.keep hb16)
    clear Ox1_6
    have Yx2_6 := Lib.hid (Yx2_5.out.keep hb16)
    clear Yx2_5
    have Ox3_5 := Lib.hid (Ox3_4.out.keep hb16)
    clear Ox3_4
    have hlty2 := hky2.lt
    have Yy2_0 := Lib.hid hky2
    clear hky2
    have By2 := Lib.hid (show w15.heap.size ≤ gy2 ∧ gy2 < w16.heap.size from ⟨by simpa using hgy2, hlty2⟩)
    clear hgy2 hlty2
    obtain ⟨K0, K1, K2, K3⟩ := K_16.out.two
    obtain ⟨X0, X1, X2, X3⟩ := X_8.out.two
    go_wp2_with fail
    refine (eqBusS_same _ _ n2 n2 n2 us2 _ h2 (Yx2_6.out.rowU HL2.out) (Yy2_0.out.rowU HL2.out)).mono ?_
    rintro e w17 ⟨rfl, hb17⟩
    clear K0 K1 K2 K3
    clear X0 X1 X2 X3
    have a17 : Below w.heap.size w w17 := a16.trans (hb17.mono a16.size)
    have Z17 := Lib.hid (show w16.heap.size ≤ w17.heap.size by have := hb17.size; (try simp at this); omega)
    have K_17 := Lib.hid (K_16.out.keep hb17)
    clear K_16
    have Yx0_10 := Lib.hid (Yx0_9.out.keep hb17)
    clear Yx0_9
    have X_9 := Lib.hid (X_8.out.keep hb17)
    clear X_8
    have Ox1_8 := Lib.hid (Ox1_7.out.keep hb17)
    clear Ox1_7
    have Yx2_7 := Lib.hid (Yx2_6.out.keep hb17)
    clear Yx2_6
    have Ox3_6 := Lib.hid (Ox3_5.out.keep hb17)
    clear Ox3_5
    have Yy2_1 := Lib.hid (Yy2_0.out.keep hb17)
    clear Yy2_0
    obtain ⟨K0, K1, K2, K3⟩ := K_17.out.two
    obtain ⟨X0, X1, X2, X3⟩ := X_9.out.two
    go_wp2_with fail
    refine (toIntS_any A3 n3 c3 xs3 _ h3 (HR3.out.below a17)).mono ?_
    rintro e w18 ⟨rfl, hO, hb18, hsy3⟩
    clear K0 K1 K2 K3
    clear X0 X1 X2 X3
    try simp only [World.size_alloc] at hO
    have a18 : Below w.heap.size w w18 := a17.trans (hb18.mono a17.size)
    have Z18 := Lib.hid (show w17.heap.size ≤ w18.heap.size by have := hb18.size; (try simp at this); omega)
    have K_18 := Lib.hid (K_17.out.keep hb18)
    clear K_17
    have Yx0_11 := Lib.hid (Yx0_10.out.keep hb18)
    clear Yx0_10
    have X_10 := Lib.hid (X_9.out.keep hb18)
    clear X_9
    have Ox1_9 := Lib.hid (Ox1_8.out.keep hb18)
    clear Ox1_8
    have Yx2_8 := Lib.hid (Yx2_7.out.keep hb18)
    clear Yx2_7
    have Ox3_7 := Lib.hid (Ox3_6.out.keep hb18)
    clear Ox3_6
    clear hsy3
    have By3 := Lib.hid hO.lt
    have Oy3_0 := Lib.hid hO
    clear hO
    obtain ⟨K0, K1, K2, K3⟩ := K_18.out.two
    obtain ⟨X0, X1, X2, X3⟩ := X_10.out.two
    go_wp2_with fail
    refine (eqIntS_own (by rw [HL3.out]; exact h3) Ox3_7.out Oy3_0.out).mono ?_
    rintro e w19 ⟨rfl, hb19⟩
    clear K0 K1 K2 K3
    clear X0 X1 X2 X3
    have a19 : Below w.heap.size w w19 := a18.trans (hb19.mono a18.size)
    have Z19 := Lib.hid (show w18.heap.size ≤ w19.heap.size by have := hb19.size; (try simp at this); omega)
    have K_19 := Lib.hid (K_18.out.keep hb19)
    clear K_18
    have Yx0_12 := Lib.hid (Yx0_11.out.keep hb19)
    clear Yx0_11
    have X_11 := Lib.hid (X_10.out.keep hb19)
    clear X_10
    have Ox1_10 := Lib.hid (Ox1_9.out.keep hb19)
    clear Ox1_9
    have Yx2_9 := Lib.hid (Yx2_8.out.keep hb19)
    clear Yx2_8
    have Ox3_8 := Lib.hid (Ox3_7.out.keep hb19)
    clear Ox3_7
    have Oy3_1 := Lib.hid (Oy3_0.out.keep hb19)
    clear Oy3_0
    go_wp2
    go_ret
    exact ⟨rfl, a19⟩
end Go.Proofs.Ytpmkeagdoehbhaa
