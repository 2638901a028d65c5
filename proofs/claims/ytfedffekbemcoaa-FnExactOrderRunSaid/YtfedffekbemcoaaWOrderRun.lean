/- The exact law of OrderRun: the walk (written by program). -/
import Derived.Test.YtfedffekbemcoaaOr6
import Derived.Test.YtfedffekbemcoaaOr7
import Derived.Test.YtfedffekbemcoaaOrB
import Derived.Test.YtfedffekbemcoaaA3
import Derived.Test.YtfedffekbemcoaaBCC
import Derived.Test.YtfedffekbemcoaaA5
import Derived.Deep.DeepCutAuto
namespace Go.Proofs.Ytfedffekbemcoaa
open Go.ChangeShapes Go.WideShapes Go.ChangeAt Go.RowKit

set_option maxRecDepth 100000 in
set_option maxHeartbeats 4000000 in
theorem exactOrderRun_walk (w : World) (bs0 : Int) (A0 : Option Addr) (n0 c0 : Nat) (ls0 : List L3) (hn0 : n0 ≤ 9223372036854775807) (hr0 : RowL w A0 n0 ls0) (A1 : Option Addr) (n1 c1 : Nat) (xs1 : List Bool) (_hnc1 : n1 ≤ c1) (_hc1 : c1 ≤ 9223372036854775807) (hr1 : RowT w A1 n1 xs1) (A2 : Option Addr) (n2 c2 : Nat) (us2 : List TP) (hn2 : n2 ≤ 9223372036854775807) (hr2 : RowP w A2 n2 us2) :
    Calls Try.prog 5 #[.agg #[.int .i64 bs0, .slice A0 n0 c0], .slice A1 n1 c1, .slice A2 n2 c2] w fun e w' => e = .returned (.bool true) ∧ Below w.heap.size w w' := by
  have HR0 := Lib.hid hr0
  have HL0 := Lib.hid hr0.1
  clear hr0
  have HR1 := Lib.hid hr1
  have HL1 := Lib.hid hr1.len
  clear hr1
  have HR2 := Lib.hid hr2
  have HL2 := Lib.hid hr2.len
  clear hr2
  by_cases h1 : n1 ≤ 1048576
  rotate_left
  · have hbig : (1048576 : Int) < (n1 : Int) := by omega
    go_enter Try.func5, Try.ntmps5
    go_wp2
    go_ret
    exact ⟨rfl, below_bx w _⟩
  by_cases h0 : n0 ≤ 1048576
  rotate_left
  · go_enter Try.func5, Try.ntmps5
    go_wp2_with fail
    refine (szNet_any bs0 A0 n0 c0 hn0 _).mono ?_
    rintro e w1 ⟨rfl, hb1⟩
    simp only [h0, if_false]
    go_wp2
    go_ret
    exact ⟨rfl, (below_bx w _).trans (hb1.mono (by simp))⟩
  by_cases H2 : (n2 : Int) ≤ ((1048576 : Int) - (n0 : Int))
  rotate_left
  · go_enter Try.func5, Try.ntmps5
    go_wp2_with fail
    refine (szNet_any bs0 A0 n0 c0 hn0 _).mono ?_
    rintro e w1 ⟨rfl, hb1⟩
    simp only [h0, if_true]
    have hps2 : ¬ (((1048576 : Int) - (n0 : Int)) < 0) := by omega
    go_wp2_with fail
    refine (szStepS_any A2 n2 c2 ((1048576 : Int) - (n0 : Int)) (by omega) (by omega) hn2 _).mono ?_
    rintro e w' ⟨rfl, rfl⟩
    go_wp2
    go_ret
    exact ⟨rfl, (below_bx w _).trans (hb1.mono (by simp))⟩
  have h2 : n2 ≤ 1048576 := by omega
  go_enter Try.func5, Try.ntmps5
  go_wp2_with fail
  have K_0 := Lib.hid (IsBlk.new w 37 #[.int .i64 bs0, .slice A0 n0 c0])
  have hpos : ¬ ((1048576 : Int) - (n0 : Int) < 0) := by omega
  refine (szNet_any bs0 A0 n0 c0 hn0 _).mono ?_
  rintro e w1 ⟨rfl, hb1⟩
  simp only [h0, if_true]
  have a1 : Below w.heap.size w w1 := (below_bx w (.cells #[.int .i64 bs0, .slice A0 n0 c0] 37)).trans (hb1.mono (below_bx w (.cells #[.int .i64 bs0, .slice A0 n0 c0] 37)).size)
  have Z1 := Lib.hid (show w.heap.size + 1 ≤ w1.heap.size by have := hb1.size; (try simp at this); omega)
  have K_1 := Lib.hid (K_0.out.keep hb1)
  clear K_0
  obtain ⟨K0, K1, K2, K3⟩ := K_1.out.two
  go_wp2_with fail
  refine (szStepS_any A2 n2 c2 ((1048576 : Int) - (n0 : Int)) (by omega) (by omega) hn2 _).mono ?_
  rintro e w' ⟨rfl, rfl⟩
  clear K0 K1 K2 K3
  simp only [H2, if_true]
  have hps2 : ¬ (((1048576 : Int) - (n0 : Int)) - (n2 : Int) < 0) := by omega
  obtain ⟨K0, K1, K2, K3⟩ := K_1.out.two
  go_wp2_with fail
  refine (toNet_any bs0 A0 n0 c0 ls0 _ h0 (HR0.out.below a1)).mono ?_
  rintro e w3 ⟨gs0, rfl, hb3, hgs0, hks0⟩
  clear K0 K1 K2 K3
  have a3 : Below w.heap.size w w3 := a1.trans (hb3.mono a1.size)
  have Z3 := Lib.hid (show w1.heap.size ≤ w3.heap.size by have := hb3.size; (try simp at this); omega)
  have K_2 := Lib.hid (K_1.out.keep hb3)
  clear K_1
  have hlts0 := hks0.lt
  have Ys0_0 := Lib.hid hks0
  clear hks0
  have Bs0 := Lib.hid (show w1.heap.size ≤ gs0 ∧ gs0 < w3.heap.size from ⟨by simpa using hgs0, hlts0⟩)
  clear hgs0 hlts0
  obtain ⟨K0, K1, K2, K3⟩ := K_2.out.two
  go_wp2_with fail
  refine (toBoolS_any A1 n1 c1 xs1 _ h1 (HR1.out.below a3)).mono ?_
  rintro e w4 ⟨rfl, hO, hb4, hss1⟩
  clear K0 K1 K2 K3
  try simp only [World.size_alloc] at hO
  have a4 : Below w.heap.size w w4 := a3.trans (hb4.mono a3.size)
  have Z4 := Lib.hid (show w3.heap.size ≤ w4.heap.size by have := hb4.size; (try simp at this); omega)
  have K_3 := Lib.hid (K_2.out.keep hb4)
  clear K_2
  have Ys0_1 := Lib.hid (Ys0_0.out.keep hb4)
  clear Ys0_0
  clear hss1
  have Bs1 := Lib.hid hO.lt
  have Os1_0 := Lib.hid hO
  clear hO
  obtain ⟨K0, K1, K2, K3⟩ := K_3.out.two
  go_wp2_with fail
  refine (toStepS_any A2 n2 c2 us2 _ h2 (HR2.out.below a4)).mono ?_
  rintro e w5 ⟨gs2, rfl, hb5, hgs2, hks2⟩
  clear K0 K1 K2 K3
  have a5 : Below w.heap.size w w5 := a4.trans (hb5.mono a4.size)
  have Z5 := Lib.hid (show w4.heap.size ≤ w5.heap.size by have := hb5.size; (try simp at this); omega)
  have K_4 := Lib.hid (K_3.out.keep hb5)
  clear K_3
  have Ys0_2 := Lib.hid (Ys0_1.out.keep hb5)
  clear Ys0_1
  have Os1_1 := Lib.hid (Os1_0.out.keep hb5)
  clear Os1_0
  have hlts2 := hks2.lt
  have Ys2_0 := Lib.hid hks2
  clear hks2
  have Bs2 := Lib.hid (show w4.heap.size ≤ gs2 ∧ gs2 < w5.heap.size from ⟨by simpa using hgs2, hlts2⟩)
  clear hgs2 hlts2
  obtain ⟨K0, K1, K2, K3⟩ := K_4.out.two
  go_wp2_with fail
  refine (specOrderRun_any bs0 _ n0 n0 ls0 _ n1 n1 xs1 _ n2 n2 us2 _ h0 (Ys0_2.out.row HL0.out) h1 (Os1_1.out.rowT) h2 (Ys2_0.out.rowP HL2.out)).mono ?_
  rintro e w6 ⟨vW, rfl, hO, hb6⟩
  clear K0 K1 K2 K3
  try simp only [World.size_alloc] at hO
  have a6 : Below w.heap.size w w6 := a5.trans (hb6.mono a5.size)
  have Z6 := Lib.hid (show w5.heap.size ≤ w6.heap.size by have := hb6.size; (try simp at this); omega)
  have K_5 := Lib.hid (K_4.out.keep hb6)
  clear K_4
  have Ys0_3 := Lib.hid (Ys0_2.out.keep hb6)
  clear Ys0_2
  have Os1_2 := Lib.hid (Os1_1.out.keep hb6)
  clear Os1_1
  have Ys2_1 := Lib.hid (Ys2_0.out.keep hb6)
  clear Ys2_0
  have BW := Lib.hid hO.lt
  have W_0 := Lib.hid hO
  clear hO
  obtain ⟨K0, K1, K2, K3⟩ := K_5.out.two
  go_wp2_with fail
  refine (toNet_any bs0 A0 n0 c0 ls0 _ h0 (HR0.out.below a6)).mono ?_
  rintro e w7 ⟨gx0, rfl, hb7, hgx0, hkx0⟩
  clear K0 K1 K2 K3
  have a7 : Below w.heap.size w w7 := a6.trans (hb7.mono a6.size)
  have Z7 := Lib.hid (show w6.heap.size ≤ w7.heap.size by have := hb7.size; (try simp at this); omega)
  have K_6 := Lib.hid (K_5.out.keep hb7)
  clear K_5
  have W_1 := Lib.hid (W_0.out.keep hb7)
  clear W_0
  have hltx0 := hkx0.lt
  have Yx0_0 := Lib.hid hkx0
  clear hkx0
  have Bx0 := Lib.hid (show w6.heap.size ≤ gx0 ∧ gx0 < w7.heap.size from ⟨by simpa using hgx0, hltx0⟩)
  clear hgx0 hltx0
  obtain ⟨K0, K1, K2, K3⟩ := K_6.out.two
  go_wp2_with fail
  clear K0 K1 K2 K3
  have X_0 := Lib.hid (IsBlk.new w7 43 #[.int .i64 bs0, .slice (some ⟨gx0, 0, none⟩) n0 n0])
  have K_7 := Lib.hid (K_6.out.alloc (.cells #[.int .i64 bs0, .slice (some ⟨gx0, 0, none⟩) n0 n0] 43))
  clear K_6
  have W_2 := Lib.hid (W_1.out.alloc (.cells #[.int .i64 bs0, .slice (some ⟨gx0, 0, none⟩) n0 n0] 43))
  clear W_1
  have Yx0_1 := Lib.hid (Yx0_0.out.alloc (.cells #[.int .i64 bs0, .slice (some ⟨gx0, 0, none⟩) n0 n0] 43))
  clear Yx0_0
  have aX : Below w.heap.size w (w7.alloc (.cells #[.int .i64 bs0, .slice (some ⟨gx0, 0, none⟩) n0 n0] 43)) := a7.alloc a7.size _
  refine (toBoolS_any A1 n1 c1 xs1 _ h1 (HR1.out.below aX)).mono ?_
  rintro e w8 ⟨rfl, hO, hb8, hsx1⟩
  try simp only [World.size_alloc] at hO
  have a8 : Below w.heap.size w w8 := aX.trans (hb8.mono aX.size)
  have Z8 := Lib.hid (show w7.heap.size + 1 ≤ w8.heap.size by have := hb8.size; (try simp at this); omega)
  have K_8 := Lib.hid (K_7.out.keep hb8)
  clear K_7
  have W_3 := Lib.hid (W_2.out.keep hb8)
  clear W_2
  have Yx0_2 := Lib.hid (Yx0_1.out.keep hb8)
  clear Yx0_1
  have X_1 := Lib.hid (X_0.out.keep hb8)
  clear X_0
  clear hsx1
  have Bx1 := Lib.hid hO.lt
  have Ox1_0 := Lib.hid hO
  clear hO
  obtain ⟨K0, K1, K2, K3⟩ := K_8.out.two
  obtain ⟨X0, X1, X2, X3⟩ := X_1.out.two
  go_wp2_with fail
  refine (toStepS_any A2 n2 c2 us2 _ h2 (HR2.out.below a8)).mono ?_
  rintro e w9 ⟨gx2, rfl, hb9, hgx2, hkx2⟩
  clear K0 K1 K2 K3
  clear X0 X1 X2 X3
  have a9 : Below w.heap.size w w9 := a8.trans (hb9.mono a8.size)
  have Z9 := Lib.hid (show w8.heap.size ≤ w9.heap.size by have := hb9.size; (try simp at this); omega)
  have K_9 := Lib.hid (K_8.out.keep hb9)
  clear K_8
  have W_4 := Lib.hid (W_3.out.keep hb9)
  clear W_3
  have Yx0_3 := Lib.hid (Yx0_2.out.keep hb9)
  clear Yx0_2
  have X_2 := Lib.hid (X_1.out.keep hb9)
  clear X_1
  have Ox1_1 := Lib.hid (Ox1_0.out.keep hb9)
  clear Ox1_0
  have hltx2 := hkx2.lt
  have Yx2_0 := Lib.hid hkx2
  clear hkx2
  have Bx2 := Lib.hid (show w8.heap.size ≤ gx2 ∧ gx2 < w9.heap.size from ⟨by simpa using hgx2, hltx2⟩)
  clear hgx2 hltx2
  obtain ⟨K0, K1, K2, K3⟩ := K_9.out.two
  obtain ⟨X0, X1, X2, X3⟩ := X_2.out.two
  go_wp2_with fail
  refine (orderRun_any bs0 _ n0 n0 ls0 _ n1 n1 xs1 _ n2 n2 us2 _ h0 (Yx0_3.out.row HL0.out) h1 (Ox1_1.out.rowT) h2 (Yx2_0.out.rowP HL2.out)).mono ?_
  rintro e w10 ⟨vG, rfl, hO, hb10⟩
  clear K0 K1 K2 K3
  clear X0 X1 X2 X3
  try simp only [World.size_alloc] at hO
  have a10 : Below w.heap.size w w10 := a9.trans (hb10.mono a9.size)
  have Z10 := Lib.hid (show w9.heap.size ≤ w10.heap.size by have := hb10.size; (try simp at this); omega)
  have K_10 := Lib.hid (K_9.out.keep hb10)
  clear K_9
  have W_5 := Lib.hid (W_4.out.keep hb10)
  clear W_4
  have Yx0_4 := Lib.hid (Yx0_3.out.keep hb10)
  clear Yx0_3
  have X_3 := Lib.hid (X_2.out.keep hb10)
  clear X_2
  have Ox1_2 := Lib.hid (Ox1_1.out.keep hb10)
  clear Ox1_1
  have Yx2_1 := Lib.hid (Yx2_0.out.keep hb10)
  clear Yx2_0
  have BG := Lib.hid hO.lt
  have G_0 := Lib.hid hO
  clear hO
  obtain ⟨K0, K1, K2, K3⟩ := K_10.out.two
  obtain ⟨X0, X1, X2, X3⟩ := X_3.out.two
  go_wp2_with fail
  refine (eqBoolS_own (Nat.le_trans (runO_len bs0 ls0 xs1 us2) (by rw [HL1.out]; exact h1)) G_0.out W_5.out).mono ?_
  rintro e w11 ⟨rfl, hb11⟩
  clear K0 K1 K2 K3
  clear X0 X1 X2 X3
  have a11 : Below w.heap.size w w11 := a10.trans (hb11.mono a10.size)
  have Z11 := Lib.hid (show w10.heap.size ≤ w11.heap.size by have := hb11.size; (try simp at this); omega)
  have K_11 := Lib.hid (K_10.out.keep hb11)
  clear K_10
  have W_6 := Lib.hid (W_5.out.keep hb11)
  clear W_5
  have Yx0_5 := Lib.hid (Yx0_4.out.keep hb11)
  clear Yx0_4
  have X_4 := Lib.hid (X_3.out.keep hb11)
  clear X_3
  have Ox1_3 := Lib.hid (Ox1_2.out.keep hb11)
  clear Ox1_2
  have Yx2_2 := Lib.hid (Yx2_1.out.keep hb11)
  clear Yx2_1
  have G_1 := Lib.hid (G_0.out.keep hb11)
  clear G_0
  obtain ⟨K0, K1, K2, K3⟩ := K_11.out.two
  obtain ⟨X0, X1, X2, X3⟩ := X_4.out.two
  go_upto_region 17 with fail
  have RD := Lib.hid (show RowL w11.drew A0 n0 ls0 from HR0.out.below a11.drew)
  have XD := Lib.hid (show IsBlk w11.drew _ 43 #[.int .i64 bs0, .slice (some ⟨gx0, 0, none⟩) n0 n0] from X_4.out)
  have YD := Lib.hid (show IsBlk w11.drew gx0 67 (rowArr fL ls0) from Yx0_5.out)
  go_cut [69] (fun s wx => s = .bool false ∧ Below w11.heap.size w11 wx)
  case first =>
    go_region_with (first
      | (go_at_call 21; refine (toNet_any bs0 A0 n0 c0 ls0 _ h0 RD.out).mono ?_; rintro e wy ⟨gy, rfl, hby, hgy, hky⟩; obtain ⟨r0, r1, _, _⟩ := (XD.out.keep hby).two; have Y8 := Lib.hid (YD.out.keep hby); have K8 := Lib.hid hky; clear hky)
      | (go_at_call 23; refine (eqNet_same bs0 _ _ n0 n0 n0 ls0 _ h0 (Y8.out.row HL0.out) (K8.out.row HL0.out)).mono ?_; rintro e wz ⟨rfl, hbz⟩))
    all_goals (go_wp2_with fail; go_meet; exact ⟨rfl, (((Below.refl w11.heap.size w11).drew).trans hby).trans (hbz.mono hby.size)⟩)
  case rest =>
    obtain ⟨rfl, hb12⟩ := hcut
    clear K0 K1 K2 K3
    clear X0 X1 X2 X3
    clear RD XD YD
    have a12 : Below w.heap.size w wc := a11.trans (hb12.mono a11.size)
    have Z12 := Lib.hid (show w11.heap.size ≤ wc.heap.size by have := hb12.size; (try simp at this); omega)
    have K_12 := Lib.hid (K_11.out.keep hb12)
    clear K_11
    have W_7 := Lib.hid (W_6.out.keep hb12)
    clear W_6
    have Yx0_6 := Lib.hid (Yx0_5.out.keep hb12)
    clear Yx0_5
    have X_5 := Lib.hid (X_4.out.keep hb12)
    clear X_4
    have Ox1_4 := Lib.hid (Ox1_3.out.keep hb12)
    clear Ox1_3
    have Yx2_3 := Lib.hid (Yx2_2.out.keep hb12)
    clear Yx2_2
    have G_2 := Lib.hid (G_1.out.keep hb12)
    clear G_1
    obtain ⟨K0, K1, K2, K3⟩ := K_12.out.two
    obtain ⟨X0, X1, X2, X3⟩ := X_5.out.two
    go_wp2_with fail
    refine (toBoolS_any A1 n1 c1 xs1 _ h1 (HR1.out.below a12)).mono ?_
    rintro e w13 ⟨rfl, hO, hb13, hsy1⟩
    clear K0 K1 K2 K3
    clear X0 X1 X2 X3
    try simp only [World.size_alloc] at hO
    have a13 : Below w.heap.size w w13 := a12.trans (hb13.mono a12.size)
    have Z13 := Lib.hid (show wc.heap.size ≤ w13.heap.size by have := hb13.size; (try simp at this); omega)
    have K_13 := Lib.hid (K_12.out.keep hb13)
    clear K_12
    have W_8 := Lib.hid (W_7.out.keep hb13)
    clear W_7
    have Yx0_7 := Lib.hid (Yx0_6.out.keep hb13)
    clear Yx0_6
    have X_6 := Lib.hid (X_5.out.keep hb13)
    clear X_5
    have Ox1_5 := Lib.hid (Ox1_4.out.keep hb13)
    clear Ox1_4
    have Yx2_4 := Lib.hid (Yx2_3.out.keep hb13)
    clear Yx2_3
    have G_3 := Lib.hid (G_2.out.keep hb13)
    clear G_2
    clear hsy1
    have By1 := Lib.hid hO.lt
    have Oy1_0 := Lib.hid hO
    clear hO
    obtain ⟨K0, K1, K2, K3⟩ := K_13.out.two
    obtain ⟨X0, X1, X2, X3⟩ := X_6.out.two
    go_wp2_with fail
    refine (eqBoolS_own (by rw [HL1.out]; exact h1) Ox1_5.out Oy1_0.out).mono ?_
    rintro e w14 ⟨rfl, hb14⟩
    clear K0 K1 K2 K3
    clear X0 X1 X2 X3
    have a14 : Below w.heap.size w w14 := a13.trans (hb14.mono a13.size)
    have Z14 := Lib.hid (show w13.heap.size ≤ w14.heap.size by have := hb14.size; (try simp at this); omega)
    have K_14 := Lib.hid (K_13.out.keep hb14)
    clear K_13
    have W_9 := Lib.hid (W_8.out.keep hb14)
    clear W_8
    have Yx0_8 := Lib.hid (Yx0_7.out.keep hb14)
    clear Yx0_7
    have X_7 := Lib.hid (X_6.out.keep hb14)
    clear X_6
    have Ox1_6 := Lib.hid (Ox1_5.out.keep hb14)
    clear Ox1_5
    have Yx2_5 := Lib.hid (Yx2_4.out.keep hb14)
    clear Yx2_4
    have G_4 := Lib.hid (G_3.out.keep hb14)
    clear G_3
    have Oy1_1 := Lib.hid (Oy1_0.out.keep hb14)
    clear Oy1_0
    obtain ⟨K0, K1, K2, K3⟩ := K_14.out.two
    obtain ⟨X0, X1, X2, X3⟩ := X_7.out.two
    go_wp2_with fail
    refine (toStepS_any A2 n2 c2 us2 _ h2 (HR2.out.below a14)).mono ?_
    rintro e w15 ⟨gy2, rfl, hb15, hgy2, hky2⟩
    clear K0 K1 K2 K3
    clear X0 X1 X2 X3
    have a15 : Below w.heap.size w w15 := a14.trans (hb15.mono a14.size)
    have Z15 := Lib.hid (show w14.heap.size ≤ w15.heap.size by have := hb15.size; (try simp at this); omega)
    have K_15 := Lib.hid (K_14.out.keep hb15)
    clear K_14
    have W_10 := Lib.hid (W_9.out.keep hb15)
    clear W_9
    have Yx0_9 := Lib.hid (Yx0_8.out.keep hb15)
    clear Yx0_8
    have X_8 := Lib.hid (X_7.out.keep hb15)
    clear X_7
    have Ox1_7 := Lib.hid (Ox1_6.out.keep hb15)
    clear Ox1_6
    have Yx2_6 := Lib.hid (Yx2_5.out.keep hb15)
    clear Yx2_5
    have G_5 := Lib.hid (G_4.out.keep hb15)
    clear G_4
    have hlty2 := hky2.lt
    have Yy2_0 := Lib.hid hky2
    clear hky2
    have By2 := Lib.hid (show w14.heap.size ≤ gy2 ∧ gy2 < w15.heap.size from ⟨by simpa using hgy2, hlty2⟩)
    clear hgy2 hlty2
    obtain ⟨K0, K1, K2, K3⟩ := K_15.out.two
    obtain ⟨X0, X1, X2, X3⟩ := X_8.out.two
    go_wp2_with fail
    refine (eqStepS_same _ _ n2 n2 n2 us2 _ h2 (Yx2_6.out.rowP HL2.out) (Yy2_0.out.rowP HL2.out)).mono ?_
    rintro e w16 ⟨rfl, hb16⟩
    clear K0 K1 K2 K3
    clear X0 X1 X2 X3
    have a16 : Below w.heap.size w w16 := a15.trans (hb16.mono a15.size)
    have Z16 := Lib.hid (show w15.heap.size ≤ w16.heap.size by have := hb16.size; (try simp at this); omega)
    have K_16 := Lib.hid (K_15.out.keep hb16)
    clear K_15
    have W_11 := Lib.hid (W_10.out.keep hb16)
    clear W_10
    have Yx0_10 := Lib.hid (Yx0_9.out.keep hb16)
    clear Yx0_9
    have X_9 := Lib.hid (X_8.out.keep hb16)
    clear X_8
    have Ox1_8 := Lib.hid (Ox1_7.out.keep hb16)
    clear Ox1_7
    have Yx2_7 := Lib.hid (Yx2_6.out.keep hb16)
    clear Yx2_6
    have G_6 := Lib.hid (G_5.out.keep hb16)
    clear G_5
    have Yy2_1 := Lib.hid (Yy2_0.out.keep hb16)
    clear Yy2_0
    obtain ⟨K0, K1, K2, K3⟩ := K_16.out.two
    obtain ⟨X0, X1, X2, X3⟩ := X_9.out.two
    go_wp2_with fail
    refine (markNet_any bs0 gx0 n0 n0 ls0 1 rfl _ h0 HL0.out Yx0_10.out).mono ?_
    rintro e w17 ⟨rfl, hg17⟩
    clear K0 K1 K2 K3
    clear X0 X1 X2 X3
    have a17 : Below w.heap.size w w17 := a16.grown hg17 a16.size (fun q hq => by have := Z1.out; have := Z3.out; have := Z4.out; have := Z5.out; have := Z6.out; have := Z7.out; have := Z8.out; have := Z9.out; have := Z10.out; have := Z11.out; have := Z12.out; have := Z13.out; have := Z14.out; have := Z15.out; have := Z16.out; have := Bx0.out; injection hq with hqe; omega)
    have Z17 := Lib.hid (show w16.heap.size ≤ w17.heap.size by have := hg17.size; (try simp at this); omega)
    have K_17 := Lib.hid (K_16.out.farG hg17 (fun e => by have := Z1.out; have := Z3.out; have := Z4.out; have := Z5.out; have := Z6.out; have := Z7.out; have := Z8.out; have := Z9.out; have := Z10.out; have := Z11.out; have := Z12.out; have := Z13.out; have := Z14.out; have := Z15.out; have := Z16.out; have := Z17.out; have := Bx0.out; injection e with hqe; skip; omega))
    clear K_16
    have W_12 := Lib.hid (W_11.out.far hg17 (fun q hq e => by have := Z1.out; have := Z3.out; have := Z4.out; have := Z5.out; have := Z6.out; have := Z7.out; have := Z8.out; have := Z9.out; have := Z10.out; have := Z11.out; have := Z12.out; have := Z13.out; have := Z14.out; have := Z15.out; have := Z16.out; have := Z17.out; have := Bx0.out; injection e with hqe; have := BW.out q hq; omega))
    clear W_11
    have X_10 := Lib.hid (X_9.out.farG hg17 (fun e => by have := Z1.out; have := Z3.out; have := Z4.out; have := Z5.out; have := Z6.out; have := Z7.out; have := Z8.out; have := Z9.out; have := Z10.out; have := Z11.out; have := Z12.out; have := Z13.out; have := Z14.out; have := Z15.out; have := Z16.out; have := Z17.out; have := Bx0.out; injection e with hqe; skip; omega))
    clear X_9
    have Ox1_9 := Lib.hid (Ox1_8.out.far hg17 (fun q hq e => by have := Z1.out; have := Z3.out; have := Z4.out; have := Z5.out; have := Z6.out; have := Z7.out; have := Z8.out; have := Z9.out; have := Z10.out; have := Z11.out; have := Z12.out; have := Z13.out; have := Z14.out; have := Z15.out; have := Z16.out; have := Z17.out; have := Bx0.out; injection e with hqe; have := Bx1.out q hq; omega))
    clear Ox1_8
    have Yx2_8 := Lib.hid (Yx2_7.out.farG hg17 (fun e => by have := Z1.out; have := Z3.out; have := Z4.out; have := Z5.out; have := Z6.out; have := Z7.out; have := Z8.out; have := Z9.out; have := Z10.out; have := Z11.out; have := Z12.out; have := Z13.out; have := Z14.out; have := Z15.out; have := Z16.out; have := Z17.out; have := Bx0.out; injection e with hqe; have := Bx2.out; omega))
    clear Yx2_7
    have G_7 := Lib.hid (G_6.out.far hg17 (fun q hq e => by have := Z1.out; have := Z3.out; have := Z4.out; have := Z5.out; have := Z6.out; have := Z7.out; have := Z8.out; have := Z9.out; have := Z10.out; have := Z11.out; have := Z12.out; have := Z13.out; have := Z14.out; have := Z15.out; have := Z16.out; have := Z17.out; have := Bx0.out; injection e with hqe; have := BG.out q hq; omega))
    clear G_6
    obtain ⟨K0, K1, K2, K3⟩ := K_17.out.two
    go_wp2_with fail
    refine (markBoolS_any _ xs1 _ (1 + 3 * (n0 : Int)) (by omega) (by omega) _ (by rw [HL1.out]; exact h1) Ox1_9.out).mono ?_
    rintro e w18 ⟨rfl, hO, hg18⟩
    clear K0 K1 K2 K3
    have a18 : Below w.heap.size w w18 := a17.grown hg18 a17.size (fun q hq => by have := Z1.out; have := Z3.out; have := Z4.out; have := Z5.out; have := Z6.out; have := Z7.out; have := Z8.out; have := Z9.out; have := Z10.out; have := Z11.out; have := Z12.out; have := Z13.out; have := Z14.out; have := Z15.out; have := Z16.out; have := Z17.out; have := Bx1.out _ hq; omega)
    have Z18 := Lib.hid (show w17.heap.size ≤ w18.heap.size by have := hg18.size; (try simp at this); omega)
    have K_18 := Lib.hid (K_17.out.farG hg18 (fun e => by have := Z1.out; have := Z3.out; have := Z4.out; have := Z5.out; have := Z6.out; have := Z7.out; have := Z8.out; have := Z9.out; have := Z10.out; have := Z11.out; have := Z12.out; have := Z13.out; have := Z14.out; have := Z15.out; have := Z16.out; have := Z17.out; have := Z18.out; have := Bx1.out _ e; skip; omega))
    clear K_17
    have W_13 := Lib.hid (W_12.out.far hg18 (fun q hq e => by have := Z1.out; have := Z3.out; have := Z4.out; have := Z5.out; have := Z6.out; have := Z7.out; have := Z8.out; have := Z9.out; have := Z10.out; have := Z11.out; have := Z12.out; have := Z13.out; have := Z14.out; have := Z15.out; have := Z16.out; have := Z17.out; have := Z18.out; have := Bx1.out _ e; have := BW.out q hq; omega))
    clear W_12
    have Yx2_9 := Lib.hid (Yx2_8.out.farG hg18 (fun e => by have := Z1.out; have := Z3.out; have := Z4.out; have := Z5.out; have := Z6.out; have := Z7.out; have := Z8.out; have := Z9.out; have := Z10.out; have := Z11.out; have := Z12.out; have := Z13.out; have := Z14.out; have := Z15.out; have := Z16.out; have := Z17.out; have := Z18.out; have := Bx1.out _ e; have := Bx2.out; omega))
    clear Yx2_8
    have G_8 := Lib.hid (G_7.out.far hg18 (fun q hq e => by have := Z1.out; have := Z3.out; have := Z4.out; have := Z5.out; have := Z6.out; have := Z7.out; have := Z8.out; have := Z9.out; have := Z10.out; have := Z11.out; have := Z12.out; have := Z13.out; have := Z14.out; have := Z15.out; have := Z16.out; have := Z17.out; have := Z18.out; have := Bx1.out _ e; have := BG.out q hq; omega))
    clear G_7
    clear hO
    have hlen1 : xs1.length ≤ 1048576 := by rw [HL1.out]; exact h1
    obtain ⟨K0, K1, K2, K3⟩ := K_18.out.two
    go_wp2_with fail
    refine (markStepS_any gx2 n2 n2 us2 ((1 + 3 * (n0 : Int)) + (xs1.length : Int)) (by omega) (by omega) _ h2 HL2.out Yx2_9.out).mono ?_
    rintro e w19 ⟨rfl, hg19⟩
    clear K0 K1 K2 K3
    have a19 : Below w.heap.size w w19 := a18.grown hg19 a18.size (fun q hq => by have := Z1.out; have := Z3.out; have := Z4.out; have := Z5.out; have := Z6.out; have := Z7.out; have := Z8.out; have := Z9.out; have := Z10.out; have := Z11.out; have := Z12.out; have := Z13.out; have := Z14.out; have := Z15.out; have := Z16.out; have := Z17.out; have := Z18.out; have := Bx2.out; injection hq with hqe; omega)
    have Z19 := Lib.hid (show w18.heap.size ≤ w19.heap.size by have := hg19.size; (try simp at this); omega)
    have K_19 := Lib.hid (K_18.out.farG hg19 (fun e => by have := Z1.out; have := Z3.out; have := Z4.out; have := Z5.out; have := Z6.out; have := Z7.out; have := Z8.out; have := Z9.out; have := Z10.out; have := Z11.out; have := Z12.out; have := Z13.out; have := Z14.out; have := Z15.out; have := Z16.out; have := Z17.out; have := Z18.out; have := Z19.out; have := Bx2.out; injection e with hqe; skip; omega))
    clear K_18
    have W_14 := Lib.hid (W_13.out.far hg19 (fun q hq e => by have := Z1.out; have := Z3.out; have := Z4.out; have := Z5.out; have := Z6.out; have := Z7.out; have := Z8.out; have := Z9.out; have := Z10.out; have := Z11.out; have := Z12.out; have := Z13.out; have := Z14.out; have := Z15.out; have := Z16.out; have := Z17.out; have := Z18.out; have := Z19.out; have := Bx2.out; injection e with hqe; have := BW.out q hq; omega))
    clear W_13
    have G_9 := Lib.hid (G_8.out.far hg19 (fun q hq e => by have := Z1.out; have := Z3.out; have := Z4.out; have := Z5.out; have := Z6.out; have := Z7.out; have := Z8.out; have := Z9.out; have := Z10.out; have := Z11.out; have := Z12.out; have := Z13.out; have := Z14.out; have := Z15.out; have := Z16.out; have := Z17.out; have := Z18.out; have := Z19.out; have := Bx2.out; injection e with hqe; have := BG.out q hq; omega))
    clear G_8
    have hm1 : ¬ ((((1 + 3 * (n0 : Int)) + (xs1.length : Int)) + 2 * (n2 : Int)) < 0) := by omega
    obtain ⟨K0, K1, K2, K3⟩ := K_19.out.two
    go_wp2_with fail
    refine (eqBoolS_own (Nat.le_trans (runO_len bs0 ls0 xs1 us2) (by rw [HL1.out]; exact h1)) G_9.out W_14.out).mono ?_
    rintro e w20 ⟨rfl, hb20⟩
    clear K0 K1 K2 K3
    have a20 : Below w.heap.size w w20 := a19.trans (hb20.mono a19.size)
    have Z20 := Lib.hid (show w19.heap.size ≤ w20.heap.size by have := hb20.size; (try simp at this); omega)
    have K_20 := Lib.hid (K_19.out.keep hb20)
    clear K_19
    have W_15 := Lib.hid (W_14.out.keep hb20)
    clear W_14
    have G_10 := Lib.hid (G_9.out.keep hb20)
    clear G_9
    obtain ⟨K0, K1, K2, K3⟩ := K_20.out.two
    go_wp2_with fail
    refine (markBoolS_any _ _ _ 1 (by omega) (by omega) _ (Nat.le_trans (runO_len bs0 ls0 xs1 us2) (by rw [HL1.out]; exact h1)) G_10.out).mono ?_
    rintro e w21 ⟨rfl, hO, hg21⟩
    clear K0 K1 K2 K3
    have a21 : Below w.heap.size w w21 := a20.grown hg21 a20.size (fun q hq => by have := Z1.out; have := Z3.out; have := Z4.out; have := Z5.out; have := Z6.out; have := Z7.out; have := Z8.out; have := Z9.out; have := Z10.out; have := Z11.out; have := Z12.out; have := Z13.out; have := Z14.out; have := Z15.out; have := Z16.out; have := Z17.out; have := Z18.out; have := Z19.out; have := Z20.out; have := BG.out _ hq; omega)
    have Z21 := Lib.hid (show w20.heap.size ≤ w21.heap.size by have := hg21.size; (try simp at this); omega)
    have K_21 := Lib.hid (K_20.out.farG hg21 (fun e => by have := Z1.out; have := Z3.out; have := Z4.out; have := Z5.out; have := Z6.out; have := Z7.out; have := Z8.out; have := Z9.out; have := Z10.out; have := Z11.out; have := Z12.out; have := Z13.out; have := Z14.out; have := Z15.out; have := Z16.out; have := Z17.out; have := Z18.out; have := Z19.out; have := Z20.out; have := Z21.out; have := BG.out _ e; skip; omega))
    clear K_20
    have W_16 := Lib.hid (W_15.out.far hg21 (fun q hq e => by have := Z1.out; have := Z3.out; have := Z4.out; have := Z5.out; have := Z6.out; have := Z7.out; have := Z8.out; have := Z9.out; have := Z10.out; have := Z11.out; have := Z12.out; have := Z13.out; have := Z14.out; have := Z15.out; have := Z16.out; have := Z17.out; have := Z18.out; have := Z19.out; have := Z20.out; have := Z21.out; have := BG.out _ e; have := BW.out q hq; omega))
    clear W_15
    clear G_10
    have G_11 := Lib.hid hO
    clear hO
    have hlr : ((runO bs0 ls0 xs1 us2).1).length ≤ 1048576 := (Nat.le_trans (runO_len bs0 ls0 xs1 us2) (by rw [HL1.out]; exact h1))
    have hm2 : ¬ ((1 : Int) + (((runO bs0 ls0 xs1 us2).1).length : Int) < 0) := by omega
    obtain ⟨K0, K1, K2, K3⟩ := K_21.out.two
    go_wp2_with fail
    refine (heldBoolS_any _ _ _ 1 (by omega) (by omega) _ hlr G_11.out).mono ?_
    rintro e w' ⟨rfl, rfl⟩
    clear K0 K1 K2 K3
    obtain ⟨K0, K1, K2, K3⟩ := K_21.out.two
    go_wp2_with fail
    refine (toNet_any bs0 A0 n0 c0 ls0 _ h0 (HR0.out.below a21)).mono ?_
    rintro e w23 ⟨gz0, rfl, hb23, hgz0, hkz0⟩
    clear K0 K1 K2 K3
    have a23 : Below w.heap.size w w23 := a21.trans (hb23.mono a21.size)
    have Z23 := Lib.hid (show w21.heap.size ≤ w23.heap.size by have := hb23.size; (try simp at this); omega)
    have K_22 := Lib.hid (K_21.out.keep hb23)
    clear K_21
    have W_17 := Lib.hid (W_16.out.keep hb23)
    clear W_16
    have G_12 := Lib.hid (G_11.out.keep hb23)
    clear G_11
    have hltz0 := hkz0.lt
    have Yz0_0 := Lib.hid hkz0
    clear hkz0
    have Bz0 := Lib.hid (show w21.heap.size ≤ gz0 ∧ gz0 < w23.heap.size from ⟨by simpa using hgz0, hltz0⟩)
    clear hgz0 hltz0
    obtain ⟨K0, K1, K2, K3⟩ := K_22.out.two
    go_wp2_with fail
    refine (toBoolS_any A1 n1 c1 xs1 _ h1 (HR1.out.below a23)).mono ?_
    rintro e w24 ⟨rfl, hO, hb24, hsz1⟩
    clear K0 K1 K2 K3
    try simp only [World.size_alloc] at hO
    have a24 : Below w.heap.size w w24 := a23.trans (hb24.mono a23.size)
    have Z24 := Lib.hid (show w23.heap.size ≤ w24.heap.size by have := hb24.size; (try simp at this); omega)
    have K_23 := Lib.hid (K_22.out.keep hb24)
    clear K_22
    have W_18 := Lib.hid (W_17.out.keep hb24)
    clear W_17
    have G_13 := Lib.hid (G_12.out.keep hb24)
    clear G_12
    have Yz0_1 := Lib.hid (Yz0_0.out.keep hb24)
    clear Yz0_0
    clear hsz1
    have Bz1 := Lib.hid hO.lt
    have Oz1_0 := Lib.hid hO
    clear hO
    obtain ⟨K0, K1, K2, K3⟩ := K_23.out.two
    go_wp2_with fail
    refine (toStepS_any A2 n2 c2 us2 _ h2 (HR2.out.below a24)).mono ?_
    rintro e w25 ⟨gz2, rfl, hb25, hgz2, hkz2⟩
    clear K0 K1 K2 K3
    have a25 : Below w.heap.size w w25 := a24.trans (hb25.mono a24.size)
    have Z25 := Lib.hid (show w24.heap.size ≤ w25.heap.size by have := hb25.size; (try simp at this); omega)
    have K_24 := Lib.hid (K_23.out.keep hb25)
    clear K_23
    have W_19 := Lib.hid (W_18.out.keep hb25)
    clear W_18
    have G_14 := Lib.hid (G_13.out.keep hb25)
    clear G_13
    have Yz0_2 := Lib.hid (Yz0_1.out.keep hb25)
    clear Yz0_1
    have Oz1_1 := Lib.hid (Oz1_0.out.keep hb25)
    clear Oz1_0
    have hltz2 := hkz2.lt
    have Yz2_0 := Lib.hid hkz2
    clear hkz2
    have Bz2 := Lib.hid (show w24.heap.size ≤ gz2 ∧ gz2 < w25.heap.size from ⟨by simpa using hgz2, hltz2⟩)
    clear hgz2 hltz2
    obtain ⟨K0, K1, K2, K3⟩ := K_24.out.two
    go_wp2_with fail
    refine (orderRun_any bs0 _ n0 n0 ls0 _ n1 n1 xs1 _ n2 n2 us2 _ h0 (Yz0_2.out.row HL0.out) h1 (Oz1_1.out.rowT) h2 (Yz2_0.out.rowP HL2.out)).mono ?_
    rintro e w26 ⟨vH, rfl, hO, hb26⟩
    clear K0 K1 K2 K3
    try simp only [World.size_alloc] at hO
    have a26 : Below w.heap.size w w26 := a25.trans (hb26.mono a25.size)
    have Z26 := Lib.hid (show w25.heap.size ≤ w26.heap.size by have := hb26.size; (try simp at this); omega)
    have K_25 := Lib.hid (K_24.out.keep hb26)
    clear K_24
    have W_20 := Lib.hid (W_19.out.keep hb26)
    clear W_19
    have G_15 := Lib.hid (G_14.out.keep hb26)
    clear G_14
    have Yz0_3 := Lib.hid (Yz0_2.out.keep hb26)
    clear Yz0_2
    have Oz1_2 := Lib.hid (Oz1_1.out.keep hb26)
    clear Oz1_1
    have Yz2_1 := Lib.hid (Yz2_0.out.keep hb26)
    clear Yz2_0
    have BH := Lib.hid hO.lt
    have H_0 := Lib.hid hO
    clear hO
    obtain ⟨K0, K1, K2, K3⟩ := K_25.out.two
    go_wp2_with fail
    refine (eqBoolS_own (Nat.le_trans (runO_len bs0 ls0 xs1 us2) (by rw [HL1.out]; exact h1)) H_0.out W_20.out).mono ?_
    rintro e w27 ⟨rfl, hb27⟩
    clear K0 K1 K2 K3
    have a27 : Below w.heap.size w w27 := a26.trans (hb27.mono a26.size)
    have Z27 := Lib.hid (show w26.heap.size ≤ w27.heap.size by have := hb27.size; (try simp at this); omega)
    have K_26 := Lib.hid (K_25.out.keep hb27)
    clear K_25
    have W_21 := Lib.hid (W_20.out.keep hb27)
    clear W_20
    have G_16 := Lib.hid (G_15.out.keep hb27)
    clear G_15
    have H_1 := Lib.hid (H_0.out.keep hb27)
    clear H_0
    obtain ⟨K0, K1, K2, K3⟩ := K_26.out.two
    go_wp2_with fail
    refine (heldBoolS_any _ _ _ 1 (by omega) (by omega) _ hlr G_16.out).mono ?_
    rintro e w' ⟨rfl, rfl⟩
    clear K0 K1 K2 K3
    go_wp2
    go_ret
    exact ⟨rfl, a27⟩
end Go.Proofs.Ytfedffekbemcoaa
