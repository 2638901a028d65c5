/- The exact law of BridgeLines: the walk (written by program). -/
import Derived.Test.YtlofhkhfomhdaaaA3
import Derived.Test.YtlofhkhfomhdaaaA4
import Derived.Test.YtlofhkhfomhdaaaA5
import Derived.Test.YtlofhkhfomhdaaaA11
import Derived.Test.YtlofhkhfomhdaaaB1
import Derived.Test.YtlofhkhfomhdaaaB6
import Derived.Test.YtlofhkhfomhdaaaQ3
import Derived.Test.YtlofhkhfomhdaaaQ6
import Derived.Deep.DeepCutAuto
namespace Go.Proofs.Ytlofhkhfomhdaaa
open Go.ChangeShapes Go.WideShapes Go.ChangeAt Go.RowKit

set_option maxRecDepth 100000 in
set_option maxHeartbeats 4000000 in
theorem exactBridgeLines_walk (w : World) (bs0 : Int) (A0 : Option Addr) (n0 c0 : Nat) (ls0 : List L3) (hn0 : n0 ≤ 9223372036854775807) (hr0 : RowL w A0 n0 ls0) (A1 : Option Addr) (n1 c1 : Nat) (xs1 : List Bool) (_hnc1 : n1 ≤ c1) (_hc1 : c1 ≤ 9223372036854775807) (hr1 : RowT w A1 n1 xs1) :
    Calls Try.prog 8 #[.agg #[.int .i64 bs0, .slice A0 n0 c0], .slice A1 n1 c1] w fun e w' => e = .returned (.bool true) ∧ Below w.heap.size w w' := by
  have HR0 := Lib.hid hr0
  have HL0 := Lib.hid hr0.1
  clear hr0
  have HR1 := Lib.hid hr1
  have HL1 := Lib.hid hr1.len
  clear hr1
  by_cases h1 : n1 ≤ 1048576
  rotate_left
  · have hbig : (1048576 : Int) < (n1 : Int) := by omega
    go_enter Try.func8, Try.ntmps8
    go_wp2
    go_ret
    exact ⟨rfl, below_bx w _⟩
  by_cases h0 : n0 ≤ 1048576
  rotate_left
  · go_enter Try.func8, Try.ntmps8
    go_wp2_with fail
    refine (szNet_any bs0 A0 n0 c0 hn0 _).mono ?_
    rintro e w1 ⟨rfl, hb1⟩
    simp only [h0, if_false]
    go_wp2
    go_ret
    exact ⟨rfl, (below_bx w _).trans (hb1.mono (by simp))⟩
  go_enter Try.func8, Try.ntmps8
  go_wp2_with fail
  have K_0 := Lib.hid (IsBlk.new w 24 #[.int .i64 bs0, .slice A0 n0 c0])
  have hpos : ¬ ((1048576 : Int) - (n0 : Int) < 0) := by omega
  refine (szNet_any bs0 A0 n0 c0 hn0 _).mono ?_
  rintro e w1 ⟨rfl, hb1⟩
  simp only [h0, if_true]
  have a1 : Below w.heap.size w w1 := (below_bx w (.cells #[.int .i64 bs0, .slice A0 n0 c0] 24)).trans (hb1.mono (below_bx w (.cells #[.int .i64 bs0, .slice A0 n0 c0] 24)).size)
  have Z1 := Lib.hid (show w.heap.size + 1 ≤ w1.heap.size by have := hb1.size; (try simp at this); omega)
  have K_1 := Lib.hid (K_0.out.keep hb1)
  clear K_0
  obtain ⟨K0, K1, K2, K3⟩ := K_1.out.two
  go_wp2_with fail
  refine (toNet_any bs0 A0 n0 c0 ls0 _ h0 (HR0.out.below a1)).mono ?_
  rintro e w2 ⟨gs0, rfl, hb2, hgs0, hks0⟩
  clear K0 K1 K2 K3
  have a2 : Below w.heap.size w w2 := a1.trans (hb2.mono a1.size)
  have Z2 := Lib.hid (show w1.heap.size ≤ w2.heap.size by have := hb2.size; (try simp at this); omega)
  have K_2 := Lib.hid (K_1.out.keep hb2)
  clear K_1
  have hlts0 := hks0.lt
  have Ys0_0 := Lib.hid hks0
  clear hks0
  have Bs0 := Lib.hid (show w1.heap.size ≤ gs0 ∧ gs0 < w2.heap.size from ⟨by simpa using hgs0, hlts0⟩)
  clear hgs0 hlts0
  obtain ⟨K0, K1, K2, K3⟩ := K_2.out.two
  go_wp2_with fail
  refine (toBoolS_any A1 n1 c1 xs1 _ h1 (HR1.out.below a2)).mono ?_
  rintro e w3 ⟨rfl, hO, hb3, hss1⟩
  clear K0 K1 K2 K3
  try simp only [World.size_alloc] at hO
  have a3 : Below w.heap.size w w3 := a2.trans (hb3.mono a2.size)
  have Z3 := Lib.hid (show w2.heap.size ≤ w3.heap.size by have := hb3.size; (try simp at this); omega)
  have K_3 := Lib.hid (K_2.out.keep hb3)
  clear K_2
  have Ys0_1 := Lib.hid (Ys0_0.out.keep hb3)
  clear Ys0_0
  clear hss1
  have Bs1 := Lib.hid hO.lt
  have Os1_0 := Lib.hid hO
  clear hO
  obtain ⟨K0, K1, K2, K3⟩ := K_3.out.two
  go_wp2_with fail
  refine (specBri_any bs0 _ n0 n0 ls0 _ n1 n1 xs1 _ h0 (Ys0_1.out.row HL0.out) h1 (Os1_0.out.rowT)).mono ?_
  rintro e w4 ⟨vW, rfl, hO, hb4⟩
  clear K0 K1 K2 K3
  try simp only [World.size_alloc] at hO
  have a4 : Below w.heap.size w w4 := a3.trans (hb4.mono a3.size)
  have Z4 := Lib.hid (show w3.heap.size ≤ w4.heap.size by have := hb4.size; (try simp at this); omega)
  have K_4 := Lib.hid (K_3.out.keep hb4)
  clear K_3
  have Ys0_2 := Lib.hid (Ys0_1.out.keep hb4)
  clear Ys0_1
  have Os1_1 := Lib.hid (Os1_0.out.keep hb4)
  clear Os1_0
  have BW := Lib.hid hO.lt
  have W_0 := Lib.hid hO
  clear hO
  obtain ⟨K0, K1, K2, K3⟩ := K_4.out.two
  go_wp2_with fail
  refine (toNet_any bs0 A0 n0 c0 ls0 _ h0 (HR0.out.below a4)).mono ?_
  rintro e w5 ⟨gx0, rfl, hb5, hgx0, hkx0⟩
  clear K0 K1 K2 K3
  have a5 : Below w.heap.size w w5 := a4.trans (hb5.mono a4.size)
  have Z5 := Lib.hid (show w4.heap.size ≤ w5.heap.size by have := hb5.size; (try simp at this); omega)
  have K_5 := Lib.hid (K_4.out.keep hb5)
  clear K_4
  have W_1 := Lib.hid (W_0.out.keep hb5)
  clear W_0
  have hltx0 := hkx0.lt
  have Yx0_0 := Lib.hid hkx0
  clear hkx0
  have Bx0 := Lib.hid (show w4.heap.size ≤ gx0 ∧ gx0 < w5.heap.size from ⟨by simpa using hgx0, hltx0⟩)
  clear hgx0 hltx0
  obtain ⟨K0, K1, K2, K3⟩ := K_5.out.two
  go_wp2_with fail
  clear K0 K1 K2 K3
  have X_0 := Lib.hid (IsBlk.new w5 31 #[.int .i64 bs0, .slice (some ⟨gx0, 0, none⟩) n0 n0])
  have K_6 := Lib.hid (K_5.out.alloc (.cells #[.int .i64 bs0, .slice (some ⟨gx0, 0, none⟩) n0 n0] 31))
  clear K_5
  have W_2 := Lib.hid (W_1.out.alloc (.cells #[.int .i64 bs0, .slice (some ⟨gx0, 0, none⟩) n0 n0] 31))
  clear W_1
  have Yx0_1 := Lib.hid (Yx0_0.out.alloc (.cells #[.int .i64 bs0, .slice (some ⟨gx0, 0, none⟩) n0 n0] 31))
  clear Yx0_0
  have aX : Below w.heap.size w (w5.alloc (.cells #[.int .i64 bs0, .slice (some ⟨gx0, 0, none⟩) n0 n0] 31)) := a5.alloc a5.size _
  refine (toBoolS_any A1 n1 c1 xs1 _ h1 (HR1.out.below aX)).mono ?_
  rintro e w6 ⟨rfl, hO, hb6, hsx1⟩
  try simp only [World.size_alloc] at hO
  have a6 : Below w.heap.size w w6 := aX.trans (hb6.mono aX.size)
  have Z6 := Lib.hid (show w5.heap.size + 1 ≤ w6.heap.size by have := hb6.size; (try simp at this); omega)
  have K_7 := Lib.hid (K_6.out.keep hb6)
  clear K_6
  have W_3 := Lib.hid (W_2.out.keep hb6)
  clear W_2
  have Yx0_2 := Lib.hid (Yx0_1.out.keep hb6)
  clear Yx0_1
  have X_1 := Lib.hid (X_0.out.keep hb6)
  clear X_0
  clear hsx1
  have Bx1 := Lib.hid hO.lt
  have Ox1_0 := Lib.hid hO
  clear hO
  obtain ⟨K0, K1, K2, K3⟩ := K_7.out.two
  obtain ⟨X0, X1, X2, X3⟩ := X_1.out.two
  go_wp2_with fail
  refine (bridgeLines_any bs0 _ n0 n0 ls0 _ n1 n1 xs1 _ h0 (Yx0_2.out.row HL0.out) h1 (Ox1_0.out.rowT)).mono ?_
  rintro e w7 ⟨vG, rfl, hO, hb7⟩
  clear K0 K1 K2 K3
  clear X0 X1 X2 X3
  try simp only [World.size_alloc] at hO
  have a7 : Below w.heap.size w w7 := a6.trans (hb7.mono a6.size)
  have Z7 := Lib.hid (show w6.heap.size ≤ w7.heap.size by have := hb7.size; (try simp at this); omega)
  have K_8 := Lib.hid (K_7.out.keep hb7)
  clear K_7
  have W_4 := Lib.hid (W_3.out.keep hb7)
  clear W_3
  have Yx0_3 := Lib.hid (Yx0_2.out.keep hb7)
  clear Yx0_2
  have X_2 := Lib.hid (X_1.out.keep hb7)
  clear X_1
  have Ox1_1 := Lib.hid (Ox1_0.out.keep hb7)
  clear Ox1_0
  have BG := Lib.hid hO.lt
  have G_0 := Lib.hid hO
  clear hO
  obtain ⟨K0, K1, K2, K3⟩ := K_8.out.two
  obtain ⟨X0, X1, X2, X3⟩ := X_2.out.two
  go_wp2_with fail
  refine (eqIntS_own (Nat.le_trans (linF_len bs0 ls0 xs1 true) (by decide)) G_0.out W_4.out).mono ?_
  rintro e w8 ⟨rfl, hb8⟩
  clear K0 K1 K2 K3
  clear X0 X1 X2 X3
  have a8 : Below w.heap.size w w8 := a7.trans (hb8.mono a7.size)
  have Z8 := Lib.hid (show w7.heap.size ≤ w8.heap.size by have := hb8.size; (try simp at this); omega)
  have K_9 := Lib.hid (K_8.out.keep hb8)
  clear K_8
  have W_5 := Lib.hid (W_4.out.keep hb8)
  clear W_4
  have Yx0_4 := Lib.hid (Yx0_3.out.keep hb8)
  clear Yx0_3
  have X_3 := Lib.hid (X_2.out.keep hb8)
  clear X_2
  have Ox1_2 := Lib.hid (Ox1_1.out.keep hb8)
  clear Ox1_1
  have G_1 := Lib.hid (G_0.out.keep hb8)
  clear G_0
  obtain ⟨K0, K1, K2, K3⟩ := K_9.out.two
  obtain ⟨X0, X1, X2, X3⟩ := X_3.out.two
  go_upto_region 13 with fail
  have RD := Lib.hid (show RowL w8.drew A0 n0 ls0 from HR0.out.below a8.drew)
  have XD := Lib.hid (show IsBlk w8.drew _ 31 #[.int .i64 bs0, .slice (some ⟨gx0, 0, none⟩) n0 n0] from X_3.out)
  have YD := Lib.hid (show IsBlk w8.drew gx0 58 (rowArr fL ls0) from Yx0_4.out)
  go_cut [42] (fun s wx => s = .bool false ∧ Below w8.heap.size w8 wx)
  case first =>
    go_region_with (first
      | (go_at_call 13; refine (toNet_any bs0 A0 n0 c0 ls0 _ h0 RD.out).mono ?_; rintro e wy ⟨gy, rfl, hby, hgy, hky⟩; obtain ⟨r0, r1, _, _⟩ := (XD.out.keep hby).two; have Y8 := Lib.hid (YD.out.keep hby); have K8 := Lib.hid hky; clear hky)
      | (go_at_call 17; refine (eqNet_same bs0 _ _ n0 n0 n0 ls0 _ h0 (Y8.out.row HL0.out) (K8.out.row HL0.out)).mono ?_; rintro e wz ⟨rfl, hbz⟩))
    all_goals (go_wp2_with fail; go_meet; exact ⟨rfl, (((Below.refl w8.heap.size w8).drew).trans hby).trans (hbz.mono hby.size)⟩)
  case rest =>
    obtain ⟨rfl, hb9⟩ := hcut
    clear K0 K1 K2 K3
    clear X0 X1 X2 X3
    clear RD XD YD
    have a9 : Below w.heap.size w wc := a8.trans (hb9.mono a8.size)
    have Z9 := Lib.hid (show w8.heap.size ≤ wc.heap.size by have := hb9.size; (try simp at this); omega)
    have K_10 := Lib.hid (K_9.out.keep hb9)
    clear K_9
    have W_6 := Lib.hid (W_5.out.keep hb9)
    clear W_5
    have Yx0_5 := Lib.hid (Yx0_4.out.keep hb9)
    clear Yx0_4
    have X_4 := Lib.hid (X_3.out.keep hb9)
    clear X_3
    have Ox1_3 := Lib.hid (Ox1_2.out.keep hb9)
    clear Ox1_2
    have G_2 := Lib.hid (G_1.out.keep hb9)
    clear G_1
    obtain ⟨K0, K1, K2, K3⟩ := K_10.out.two
    obtain ⟨X0, X1, X2, X3⟩ := X_4.out.two
    go_wp2_with fail
    refine (toBoolS_any A1 n1 c1 xs1 _ h1 (HR1.out.below a9)).mono ?_
    rintro e w10 ⟨rfl, hO, hb10, hsy1⟩
    clear K0 K1 K2 K3
    clear X0 X1 X2 X3
    try simp only [World.size_alloc] at hO
    have a10 : Below w.heap.size w w10 := a9.trans (hb10.mono a9.size)
    have Z10 := Lib.hid (show wc.heap.size ≤ w10.heap.size by have := hb10.size; (try simp at this); omega)
    have K_11 := Lib.hid (K_10.out.keep hb10)
    clear K_10
    have W_7 := Lib.hid (W_6.out.keep hb10)
    clear W_6
    have Yx0_6 := Lib.hid (Yx0_5.out.keep hb10)
    clear Yx0_5
    have X_5 := Lib.hid (X_4.out.keep hb10)
    clear X_4
    have Ox1_4 := Lib.hid (Ox1_3.out.keep hb10)
    clear Ox1_3
    have G_3 := Lib.hid (G_2.out.keep hb10)
    clear G_2
    clear hsy1
    have By1 := Lib.hid hO.lt
    have Oy1_0 := Lib.hid hO
    clear hO
    obtain ⟨K0, K1, K2, K3⟩ := K_11.out.two
    obtain ⟨X0, X1, X2, X3⟩ := X_5.out.two
    go_wp2_with fail
    refine (eqBoolS_own (by rw [HL1.out]; exact h1) Ox1_4.out Oy1_0.out).mono ?_
    rintro e w11 ⟨rfl, hb11⟩
    clear K0 K1 K2 K3
    clear X0 X1 X2 X3
    have a11 : Below w.heap.size w w11 := a10.trans (hb11.mono a10.size)
    have Z11 := Lib.hid (show w10.heap.size ≤ w11.heap.size by have := hb11.size; (try simp at this); omega)
    have K_12 := Lib.hid (K_11.out.keep hb11)
    clear K_11
    have W_8 := Lib.hid (W_7.out.keep hb11)
    clear W_7
    have Yx0_7 := Lib.hid (Yx0_6.out.keep hb11)
    clear Yx0_6
    have X_6 := Lib.hid (X_5.out.keep hb11)
    clear X_5
    have Ox1_5 := Lib.hid (Ox1_4.out.keep hb11)
    clear Ox1_4
    have G_4 := Lib.hid (G_3.out.keep hb11)
    clear G_3
    have Oy1_1 := Lib.hid (Oy1_0.out.keep hb11)
    clear Oy1_0
    obtain ⟨K0, K1, K2, K3⟩ := K_12.out.two
    obtain ⟨X0, X1, X2, X3⟩ := X_6.out.two
    go_wp2_with fail
    refine (markNet_any bs0 gx0 n0 n0 ls0 1 rfl _ h0 HL0.out Yx0_7.out).mono ?_
    rintro e w12 ⟨rfl, hg12⟩
    clear K0 K1 K2 K3
    clear X0 X1 X2 X3
    have a12 : Below w.heap.size w w12 := a11.grown hg12 a11.size (fun q hq => by have := Z1.out; have := Z2.out; have := Z3.out; have := Z4.out; have := Z5.out; have := Z6.out; have := Z7.out; have := Z8.out; have := Z9.out; have := Z10.out; have := Z11.out; have := Bx0.out; injection hq with hqe; omega)
    have Z12 := Lib.hid (show w11.heap.size ≤ w12.heap.size by have := hg12.size; (try simp at this); omega)
    have K_13 := Lib.hid (K_12.out.farG hg12 (fun e => by have := Z1.out; have := Z2.out; have := Z3.out; have := Z4.out; have := Z5.out; have := Z6.out; have := Z7.out; have := Z8.out; have := Z9.out; have := Z10.out; have := Z11.out; have := Z12.out; have := Bx0.out; injection e with hqe; skip; omega))
    clear K_12
    have W_9 := Lib.hid (W_8.out.far hg12 (fun q hq e => by have := Z1.out; have := Z2.out; have := Z3.out; have := Z4.out; have := Z5.out; have := Z6.out; have := Z7.out; have := Z8.out; have := Z9.out; have := Z10.out; have := Z11.out; have := Z12.out; have := Bx0.out; injection e with hqe; have := BW.out q hq; omega))
    clear W_8
    have X_7 := Lib.hid (X_6.out.farG hg12 (fun e => by have := Z1.out; have := Z2.out; have := Z3.out; have := Z4.out; have := Z5.out; have := Z6.out; have := Z7.out; have := Z8.out; have := Z9.out; have := Z10.out; have := Z11.out; have := Z12.out; have := Bx0.out; injection e with hqe; skip; omega))
    clear X_6
    have Ox1_6 := Lib.hid (Ox1_5.out.far hg12 (fun q hq e => by have := Z1.out; have := Z2.out; have := Z3.out; have := Z4.out; have := Z5.out; have := Z6.out; have := Z7.out; have := Z8.out; have := Z9.out; have := Z10.out; have := Z11.out; have := Z12.out; have := Bx0.out; injection e with hqe; have := Bx1.out q hq; omega))
    clear Ox1_5
    have G_5 := Lib.hid (G_4.out.far hg12 (fun q hq e => by have := Z1.out; have := Z2.out; have := Z3.out; have := Z4.out; have := Z5.out; have := Z6.out; have := Z7.out; have := Z8.out; have := Z9.out; have := Z10.out; have := Z11.out; have := Z12.out; have := Bx0.out; injection e with hqe; have := BG.out q hq; omega))
    clear G_4
    obtain ⟨K0, K1, K2, K3⟩ := K_13.out.two
    go_wp2_with fail
    refine (markBoolS_any _ xs1 _ (1 + 3 * (n0 : Int)) (by omega) (by omega) _ (by rw [HL1.out]; exact h1) Ox1_6.out).mono ?_
    rintro e w13 ⟨rfl, hO, hg13⟩
    clear K0 K1 K2 K3
    have a13 : Below w.heap.size w w13 := a12.grown hg13 a12.size (fun q hq => by have := Z1.out; have := Z2.out; have := Z3.out; have := Z4.out; have := Z5.out; have := Z6.out; have := Z7.out; have := Z8.out; have := Z9.out; have := Z10.out; have := Z11.out; have := Z12.out; have := Bx1.out _ hq; omega)
    have Z13 := Lib.hid (show w12.heap.size ≤ w13.heap.size by have := hg13.size; (try simp at this); omega)
    have K_14 := Lib.hid (K_13.out.farG hg13 (fun e => by have := Z1.out; have := Z2.out; have := Z3.out; have := Z4.out; have := Z5.out; have := Z6.out; have := Z7.out; have := Z8.out; have := Z9.out; have := Z10.out; have := Z11.out; have := Z12.out; have := Z13.out; have := Bx1.out _ e; skip; omega))
    clear K_13
    have W_10 := Lib.hid (W_9.out.far hg13 (fun q hq e => by have := Z1.out; have := Z2.out; have := Z3.out; have := Z4.out; have := Z5.out; have := Z6.out; have := Z7.out; have := Z8.out; have := Z9.out; have := Z10.out; have := Z11.out; have := Z12.out; have := Z13.out; have := Bx1.out _ e; have := BW.out q hq; omega))
    clear W_9
    have G_6 := Lib.hid (G_5.out.far hg13 (fun q hq e => by have := Z1.out; have := Z2.out; have := Z3.out; have := Z4.out; have := Z5.out; have := Z6.out; have := Z7.out; have := Z8.out; have := Z9.out; have := Z10.out; have := Z11.out; have := Z12.out; have := Z13.out; have := Bx1.out _ e; have := BG.out q hq; omega))
    clear G_5
    clear hO
    have hlen1 : xs1.length ≤ 1048576 := by rw [HL1.out]; exact h1
    have hm1 : ¬ (((1 + 3 * (n0 : Int)) + (xs1.length : Int)) < 0) := by omega
    obtain ⟨K0, K1, K2, K3⟩ := K_14.out.two
    go_wp2_with fail
    refine (eqIntS_own (Nat.le_trans (linF_len bs0 ls0 xs1 true) (by decide)) G_6.out W_10.out).mono ?_
    rintro e w14 ⟨rfl, hb14⟩
    clear K0 K1 K2 K3
    have a14 : Below w.heap.size w w14 := a13.trans (hb14.mono a13.size)
    have Z14 := Lib.hid (show w13.heap.size ≤ w14.heap.size by have := hb14.size; (try simp at this); omega)
    have K_15 := Lib.hid (K_14.out.keep hb14)
    clear K_14
    have W_11 := Lib.hid (W_10.out.keep hb14)
    clear W_10
    have G_7 := Lib.hid (G_6.out.keep hb14)
    clear G_6
    obtain ⟨K0, K1, K2, K3⟩ := K_15.out.two
    go_wp2_with fail
    refine (markIntS_gen _ _ _ 1 (by omega) (by omega) _ (Nat.le_trans (linF_len bs0 ls0 xs1 true) (by decide)) G_7.out).mono ?_
    rintro e w15 ⟨rfl, hO, hg15⟩
    clear K0 K1 K2 K3
    have a15 : Below w.heap.size w w15 := a14.grown hg15 a14.size (fun q hq => by have := Z1.out; have := Z2.out; have := Z3.out; have := Z4.out; have := Z5.out; have := Z6.out; have := Z7.out; have := Z8.out; have := Z9.out; have := Z10.out; have := Z11.out; have := Z12.out; have := Z13.out; have := Z14.out; have := BG.out _ hq; omega)
    have Z15 := Lib.hid (show w14.heap.size ≤ w15.heap.size by have := hg15.size; (try simp at this); omega)
    have K_16 := Lib.hid (K_15.out.farG hg15 (fun e => by have := Z1.out; have := Z2.out; have := Z3.out; have := Z4.out; have := Z5.out; have := Z6.out; have := Z7.out; have := Z8.out; have := Z9.out; have := Z10.out; have := Z11.out; have := Z12.out; have := Z13.out; have := Z14.out; have := Z15.out; have := BG.out _ e; skip; omega))
    clear K_15
    have W_12 := Lib.hid (W_11.out.far hg15 (fun q hq e => by have := Z1.out; have := Z2.out; have := Z3.out; have := Z4.out; have := Z5.out; have := Z6.out; have := Z7.out; have := Z8.out; have := Z9.out; have := Z10.out; have := Z11.out; have := Z12.out; have := Z13.out; have := Z14.out; have := Z15.out; have := BG.out _ e; have := BW.out q hq; omega))
    clear W_11
    clear G_7
    have G_8 := Lib.hid hO
    clear hO
    have hlr : (linF bs0 ls0 xs1 true).length ≤ 1048576 := (Nat.le_trans (linF_len bs0 ls0 xs1 true) (by decide))
    have hm2 : ¬ ((1 : Int) + ((linF bs0 ls0 xs1 true).length : Int) < 0) := by omega
    obtain ⟨K0, K1, K2, K3⟩ := K_16.out.two
    go_wp2_with fail
    refine (heldIntS_gen _ _ _ 1 (by omega) (by omega) _ hlr G_8.out).mono ?_
    rintro e w' ⟨rfl, rfl⟩
    clear K0 K1 K2 K3
    obtain ⟨K0, K1, K2, K3⟩ := K_16.out.two
    go_wp2_with fail
    refine (toNet_any bs0 A0 n0 c0 ls0 _ h0 (HR0.out.below a15)).mono ?_
    rintro e w17 ⟨gz0, rfl, hb17, hgz0, hkz0⟩
    clear K0 K1 K2 K3
    have a17 : Below w.heap.size w w17 := a15.trans (hb17.mono a15.size)
    have Z17 := Lib.hid (show w15.heap.size ≤ w17.heap.size by have := hb17.size; (try simp at this); omega)
    have K_17 := Lib.hid (K_16.out.keep hb17)
    clear K_16
    have W_13 := Lib.hid (W_12.out.keep hb17)
    clear W_12
    have G_9 := Lib.hid (G_8.out.keep hb17)
    clear G_8
    have hltz0 := hkz0.lt
    have Yz0_0 := Lib.hid hkz0
    clear hkz0
    have Bz0 := Lib.hid (show w15.heap.size ≤ gz0 ∧ gz0 < w17.heap.size from ⟨by simpa using hgz0, hltz0⟩)
    clear hgz0 hltz0
    obtain ⟨K0, K1, K2, K3⟩ := K_17.out.two
    go_wp2_with fail
    refine (toBoolS_any A1 n1 c1 xs1 _ h1 (HR1.out.below a17)).mono ?_
    rintro e w18 ⟨rfl, hO, hb18, hsz1⟩
    clear K0 K1 K2 K3
    try simp only [World.size_alloc] at hO
    have a18 : Below w.heap.size w w18 := a17.trans (hb18.mono a17.size)
    have Z18 := Lib.hid (show w17.heap.size ≤ w18.heap.size by have := hb18.size; (try simp at this); omega)
    have K_18 := Lib.hid (K_17.out.keep hb18)
    clear K_17
    have W_14 := Lib.hid (W_13.out.keep hb18)
    clear W_13
    have G_10 := Lib.hid (G_9.out.keep hb18)
    clear G_9
    have Yz0_1 := Lib.hid (Yz0_0.out.keep hb18)
    clear Yz0_0
    clear hsz1
    have Bz1 := Lib.hid hO.lt
    have Oz1_0 := Lib.hid hO
    clear hO
    obtain ⟨K0, K1, K2, K3⟩ := K_18.out.two
    go_wp2_with fail
    refine (bridgeLines_any bs0 _ n0 n0 ls0 _ n1 n1 xs1 _ h0 (Yz0_1.out.row HL0.out) h1 (Oz1_0.out.rowT)).mono ?_
    rintro e w19 ⟨vH, rfl, hO, hb19⟩
    clear K0 K1 K2 K3
    try simp only [World.size_alloc] at hO
    have a19 : Below w.heap.size w w19 := a18.trans (hb19.mono a18.size)
    have Z19 := Lib.hid (show w18.heap.size ≤ w19.heap.size by have := hb19.size; (try simp at this); omega)
    have K_19 := Lib.hid (K_18.out.keep hb19)
    clear K_18
    have W_15 := Lib.hid (W_14.out.keep hb19)
    clear W_14
    have G_11 := Lib.hid (G_10.out.keep hb19)
    clear G_10
    have Yz0_2 := Lib.hid (Yz0_1.out.keep hb19)
    clear Yz0_1
    have Oz1_1 := Lib.hid (Oz1_0.out.keep hb19)
    clear Oz1_0
    have BH := Lib.hid hO.lt
    have H_0 := Lib.hid hO
    clear hO
    obtain ⟨K0, K1, K2, K3⟩ := K_19.out.two
    go_wp2_with fail
    refine (eqIntS_own (Nat.le_trans (linF_len bs0 ls0 xs1 true) (by decide)) H_0.out W_15.out).mono ?_
    rintro e w20 ⟨rfl, hb20⟩
    clear K0 K1 K2 K3
    have a20 : Below w.heap.size w w20 := a19.trans (hb20.mono a19.size)
    have Z20 := Lib.hid (show w19.heap.size ≤ w20.heap.size by have := hb20.size; (try simp at this); omega)
    have K_20 := Lib.hid (K_19.out.keep hb20)
    clear K_19
    have W_16 := Lib.hid (W_15.out.keep hb20)
    clear W_15
    have G_12 := Lib.hid (G_11.out.keep hb20)
    clear G_11
    have H_1 := Lib.hid (H_0.out.keep hb20)
    clear H_0
    obtain ⟨K0, K1, K2, K3⟩ := K_20.out.two
    go_wp2_with fail
    refine (heldIntS_gen _ _ _ 1 (by omega) (by omega) _ hlr G_12.out).mono ?_
    rintro e w' ⟨rfl, rfl⟩
    clear K0 K1 K2 K3
    go_wp2
    go_ret
    exact ⟨rfl, a20⟩
end Go.Proofs.Ytlofhkhfomhdaaa
