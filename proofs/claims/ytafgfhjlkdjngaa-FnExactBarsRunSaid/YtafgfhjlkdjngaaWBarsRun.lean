/- The exact law of BarsRun: the walk (written by program). -/
import Derived.Test.YtafgfhjlkdjngaaBrB
import Derived.Test.YtafgfhjlkdjngaaBrE
import Derived.Deep.DeepCutAuto
namespace Go.Proofs.Ytafgfhjlkdjngaa
open Go.ChangeShapes Go.WideShapes Go.ChangeAt Go.RowKit

set_option maxRecDepth 100000 in
set_option maxHeartbeats 8000000 in
theorem exactBarsRun_walk (w : World) (A : Option Addr) (n c : Nat) (ss : List Int) (cp : Bool) (hn : n ≤ 9223372036854775807) (hr : RowZ w A n ss) (B1 : Option Addr) (m1 d1 : Nat) (zs1 : List Int) (_hmd1 : m1 ≤ d1) (_hd1 : d1 ≤ 9223372036854775807) (hz1 : RowZ w B1 m1 zs1) (hx1 : ∀ z ∈ zs1, z ≤ 9223372036854775807) :
    Calls Try.prog 3 #[.agg #[.slice A n c, .bool cp], .slice B1 m1 d1] w fun e w' => e = .returned (.bool true) ∧ Below w.heap.size w w' := by
  have HR := Lib.hid hr
  have HL := Lib.hid hr.len
  clear hr
  have HX1 := Lib.hid hx1
  clear hx1
  have HZ1 := Lib.hid hz1
  have HZL1 := Lib.hid hz1.len
  clear hz1
  by_cases h1 : m1 ≤ 1048576
  rotate_left
  · have hbig : (1048576 : Int) < (m1 : Int) := by omega
    go_enter Try.func3, Try.ntmps3
    go_wp2
    go_ret
    exact ⟨rfl, below_bx _ _⟩
  have b0 := below_bx w (.cells #[.slice A n c, .bool cp] 24)
  have K0 := Lib.hid (IsBlk.new w 24 #[.slice A n c, .bool cp])
  obtain ⟨k0, k1, -⟩ := K0.out.two
  by_cases h0 : n ≤ 1048576
  rotate_left
  · go_enter Try.func3, Try.ntmps3
    go_wp2_with fail
    refine (szBars_any A n c cp hn _).mono ?_
    rintro e w1 ⟨rfl, hb1⟩
    rw [if_neg h0]
    go_wp2
    go_ret
    exact ⟨rfl, b0.trans (hb1.mono b0.size)⟩
  obtain ⟨F, hF⟩ : ∃ F, F = brF (ss, cp) zs1 := ⟨_, rfl⟩
  have hFl : F.1.1.length ≤ 1048576 := by rw [hF]; exact (by rw [brF]; split; rw [run_lenR]; simp only; rw [HL.out]; exact h0; simp)
  have HFE := Lib.hid hF
  clear hF
  obtain ⟨⟨F1, F2⟩, Q⟩ := F
  have hneq : ((Q : Int) != (Q : Int)) = false := by simp
  try dsimp only at hFl
  go_enter Try.func3, Try.ntmps3
  go_wp2_with fail
  refine (szBars_any A n c cp hn _).mono ?_
  rintro e w1 ⟨rfl, hb1⟩
  rw [if_pos h0]
  have hpos : ¬ ((1048576 : Int) - (n : Int) < 0) := by omega
  have A1 := Lib.hid (show Below w.heap.size w w1 from b0.trans (hb1.mono b0.size))
  have K_0 := Lib.hid (K0.out.keep hb1)
  clear k0 k1 hb1 b0 K0
  have Z1 := Lib.hid (K_0.out.lt)
  obtain ⟨c0K, c1K, -⟩ := K_0.out.two
  go_wp2_with fail
  refine (toBars_any A n c ss cp _ h0 (HR.out.below A1.out)).mono ?_
  rintro e w2 ⟨gs, rfl, hO, hb2⟩
  clear c0K c1K
  have Z2 := Lib.hid (show w1.heap.size ≤ w2.heap.size from hb2.size)
  have K_1 := Lib.hid (K_0.out.keep hb2)
  clear K_0
  have A2_ := Lib.hid (A1.out.trans (hb2.mono A1.out.size))
  clear A1
  have Os_0 := Lib.hid hO
  have LOs := Lib.hid (fun q hq => OwnI.lt Os_0.out q hq)
  clear hO
  obtain ⟨c0K, c1K, -⟩ := K_1.out.two
  go_wp2_with fail
  refine (toIntS_any B1 m1 d1 zs1 _ h1 (HZ1.out.below A2_.out)).mono ?_
  rintro e w3 ⟨rfl, hO, hb3, hs⟩
  clear c0K c1K
  have Z3 := Lib.hid (show w2.heap.size ≤ w3.heap.size from hb3.size)
  have K_2 := Lib.hid (K_1.out.keep hb3)
  clear K_1
  have Os_1 := Lib.hid (OwnI.keep Os_0.out hb3)
  clear Os_0
  have A3_ := Lib.hid (A2_.out.trans (hb3.mono A2_.out.size))
  clear A2_
  clear hs
  try simp only [World.size_alloc] at hO
  have Os1_0 := Lib.hid hO
  have LOs1 := Lib.hid (fun q hq => OwnI.lt Os1_0.out q hq)
  clear hO
  obtain ⟨c0K, c1K, -⟩ := K_2.out.two
  go_wp2_with fail
  refine (specBarsRun_any _ n n ss cp _ m1 m1 zs1 _ h0 (OwnI.rowZ Os_1.out) h1 (OwnI.rowZ Os1_0.out) HX1.out).mono ?_
  rintro e w4 ⟨vW, rfl, hO, hb4⟩
  clear c0K c1K
  have Z4 := Lib.hid (show w3.heap.size ≤ w4.heap.size from hb4.size)
  have K_3 := Lib.hid (K_2.out.keep hb4)
  clear K_2
  have Os_2 := Lib.hid (OwnI.keep Os_1.out hb4)
  clear Os_1
  have Os1_1 := Lib.hid (OwnI.keep Os1_0.out hb4)
  clear Os1_0
  have A4_ := Lib.hid (A3_.out.trans (hb4.mono A3_.out.size))
  clear A3_
  rw [← HFE.out] at hO
  rw [← HFE.out]
  dsimp only [vR] at hO ⊢
  obtain ⟨VW, uW, rfl⟩ := OwnI.shape hO
  have OW_0 := Lib.hid hO
  have LOW := Lib.hid (fun q hq => OwnI.lt OW_0.out q hq)
  clear hO
  have K_4 := Lib.hid (K_3.out.alloc (.cells #[.slice VW F1.length uW, .bool F2] 26))
  clear K_3
  have Os_3 := Lib.hid (OwnI.alloc Os_2.out (.cells #[.slice VW F1.length uW, .bool F2] 26))
  clear Os_2
  have Os1_2 := Lib.hid (OwnI.alloc Os1_1.out (.cells #[.slice VW F1.length uW, .bool F2] 26))
  clear Os1_1
  have OW_1 := Lib.hid (OwnI.alloc OW_0.out (.cells #[.slice VW F1.length uW, .bool F2] 26))
  clear OW_0
  have BW_0 := Lib.hid (IsBlk.new w4 26 #[.slice VW F1.length uW, .bool F2])
  have A5_ := Lib.hid (A4_.out.alloc A4_.out.size (.cells #[.slice VW F1.length uW, .bool F2] 26))
  clear A4_
  have GBW := Lib.hid (show w4.heap.size < (w4.alloc (.cells #[.slice VW F1.length uW, .bool F2] 26)).heap.size by simp)
  clear Os_3
  clear Os1_2
  obtain ⟨c0K, c1K, -⟩ := K_4.out.two
  obtain ⟨c0BW, c1BW, -⟩ := BW_0.out.two
  go_wp2_with fail
  refine (toBars_any A n c ss cp _ h0 (HR.out.below A5_.out)).mono ?_
  rintro e w6 ⟨gx, rfl, hO, hb6⟩
  clear c0K c1K c0BW c1BW
  have Z6 := Lib.hid (show (w4.alloc (.cells #[.slice VW F1.length uW, .bool F2] 26)).heap.size ≤ w6.heap.size from hb6.size)
  have K_5 := Lib.hid (K_4.out.keep hb6)
  clear K_4
  have OW_2 := Lib.hid (OwnI.keep OW_1.out hb6)
  clear OW_1
  have BW_1 := Lib.hid (BW_0.out.keep hb6)
  clear BW_0
  have A6_ := Lib.hid (A5_.out.trans (hb6.mono A5_.out.size))
  clear A5_
  have Ox_0 := Lib.hid hO
  have LOx := Lib.hid (fun q hq => OwnI.lt Ox_0.out q hq)
  clear hO
  have K_6 := Lib.hid (K_5.out.alloc (.cells #[.slice (some ⟨gx, 0, none⟩) n n, .bool cp] 26))
  clear K_5
  have OW_3 := Lib.hid (OwnI.alloc OW_2.out (.cells #[.slice (some ⟨gx, 0, none⟩) n n, .bool cp] 26))
  clear OW_2
  have BW_2 := Lib.hid (BW_1.out.alloc (.cells #[.slice (some ⟨gx, 0, none⟩) n n, .bool cp] 26))
  clear BW_1
  have Ox_1 := Lib.hid (OwnI.alloc Ox_0.out (.cells #[.slice (some ⟨gx, 0, none⟩) n n, .bool cp] 26))
  clear Ox_0
  have X_0 := Lib.hid (IsBlk.new w6 26 #[.slice (some ⟨gx, 0, none⟩) n n, .bool cp])
  have A7_ := Lib.hid (A6_.out.alloc A6_.out.size (.cells #[.slice (some ⟨gx, 0, none⟩) n n, .bool cp] 26))
  clear A6_
  have GX := Lib.hid (show w6.heap.size < (w6.alloc (.cells #[.slice (some ⟨gx, 0, none⟩) n n, .bool cp] 26)).heap.size by simp)
  obtain ⟨c0K, c1K, -⟩ := K_6.out.two
  obtain ⟨c0BW, c1BW, -⟩ := BW_2.out.two
  obtain ⟨c0X, c1X, -⟩ := X_0.out.two
  go_wp2_with fail
  refine (toIntS_any B1 m1 d1 zs1 _ h1 (HZ1.out.below A7_.out)).mono ?_
  rintro e w8 ⟨rfl, hO, hb8, hs⟩
  clear c0K c1K c0BW c1BW c0X c1X
  have Z8 := Lib.hid (show (w6.alloc (.cells #[.slice (some ⟨gx, 0, none⟩) n n, .bool cp] 26)).heap.size ≤ w8.heap.size from hb8.size)
  have K_7 := Lib.hid (K_6.out.keep hb8)
  clear K_6
  have OW_4 := Lib.hid (OwnI.keep OW_3.out hb8)
  clear OW_3
  have BW_3 := Lib.hid (BW_2.out.keep hb8)
  clear BW_2
  have Ox_2 := Lib.hid (OwnI.keep Ox_1.out hb8)
  clear Ox_1
  have X_1 := Lib.hid (X_0.out.keep hb8)
  clear X_0
  have A8_ := Lib.hid (A7_.out.trans (hb8.mono A7_.out.size))
  clear A7_
  clear hs
  try simp only [World.size_alloc] at hO
  have Ox1_0 := Lib.hid hO
  have LOx1 := Lib.hid (fun q hq => OwnI.lt Ox1_0.out q hq)
  clear hO
  obtain ⟨c0K, c1K, -⟩ := K_7.out.two
  obtain ⟨c0BW, c1BW, -⟩ := BW_3.out.two
  obtain ⟨c0X, c1X, -⟩ := X_1.out.two
  go_wp2_with fail
  refine (barsRun_any _ n n ss cp _ m1 m1 zs1 _ h0 (OwnI.rowZ Ox_2.out) h1 (OwnI.rowZ Ox1_0.out)).mono ?_
  rintro e w9 ⟨vG, rfl, hO, hb9⟩
  clear c0K c1K c0BW c1BW c0X c1X
  have Z9 := Lib.hid (show w8.heap.size ≤ w9.heap.size from hb9.size)
  have K_8 := Lib.hid (K_7.out.keep hb9)
  clear K_7
  have OW_5 := Lib.hid (OwnI.keep OW_4.out hb9)
  clear OW_4
  have BW_4 := Lib.hid (BW_3.out.keep hb9)
  clear BW_3
  have Ox_3 := Lib.hid (OwnI.keep Ox_2.out hb9)
  clear Ox_2
  have X_2 := Lib.hid (X_1.out.keep hb9)
  clear X_1
  have Ox1_1 := Lib.hid (OwnI.keep Ox1_0.out hb9)
  clear Ox1_0
  have A9_ := Lib.hid (A8_.out.trans (hb9.mono A8_.out.size))
  clear A8_
  rw [← HFE.out] at hO
  rw [← HFE.out]
  dsimp only [vR] at hO ⊢
  obtain ⟨VG, uG, rfl⟩ := OwnI.shape hO
  have OG_0 := Lib.hid hO
  have LOG := Lib.hid (fun q hq => OwnI.lt OG_0.out q hq)
  clear hO
  have K_9 := Lib.hid (K_8.out.alloc (.cells #[.slice VG F1.length uG, .bool F2] 26))
  clear K_8
  have OW_6 := Lib.hid (OwnI.alloc OW_5.out (.cells #[.slice VG F1.length uG, .bool F2] 26))
  clear OW_5
  have BW_5 := Lib.hid (BW_4.out.alloc (.cells #[.slice VG F1.length uG, .bool F2] 26))
  clear BW_4
  have Ox_4 := Lib.hid (OwnI.alloc Ox_3.out (.cells #[.slice VG F1.length uG, .bool F2] 26))
  clear Ox_3
  have X_3 := Lib.hid (X_2.out.alloc (.cells #[.slice VG F1.length uG, .bool F2] 26))
  clear X_2
  have Ox1_2 := Lib.hid (OwnI.alloc Ox1_1.out (.cells #[.slice VG F1.length uG, .bool F2] 26))
  clear Ox1_1
  have OG_1 := Lib.hid (OwnI.alloc OG_0.out (.cells #[.slice VG F1.length uG, .bool F2] 26))
  clear OG_0
  have BG_0 := Lib.hid (IsBlk.new w9 26 #[.slice VG F1.length uG, .bool F2])
  have A10_ := Lib.hid (A9_.out.alloc A9_.out.size (.cells #[.slice VG F1.length uG, .bool F2] 26))
  clear A9_
  have GBG := Lib.hid (show w9.heap.size < (w9.alloc (.cells #[.slice VG F1.length uG, .bool F2] 26)).heap.size by simp)
  obtain ⟨c0K, c1K, -⟩ := K_9.out.two
  obtain ⟨c0BW, c1BW, -⟩ := BW_5.out.two
  obtain ⟨c0X, c1X, -⟩ := X_3.out.two
  obtain ⟨c0BG, c1BG, -⟩ := BG_0.out.two
  go_wp2_with fail
  refine (eqBars_same _ _ _ _ _ F1 F2 _ hFl OG_1.out OW_6.out).mono ?_
  rintro e w11 ⟨rfl, hb11⟩
  clear c0K c1K c0BW c1BW c0X c1X c0BG c1BG
  have Z11 := Lib.hid (show (w9.alloc (.cells #[.slice VG F1.length uG, .bool F2] 26)).heap.size ≤ w11.heap.size from hb11.size)
  have K_10 := Lib.hid (K_9.out.keep hb11)
  clear K_9
  have OW_7 := Lib.hid (OwnI.keep OW_6.out hb11)
  clear OW_6
  have BW_6 := Lib.hid (BW_5.out.keep hb11)
  clear BW_5
  have Ox_5 := Lib.hid (OwnI.keep Ox_4.out hb11)
  clear Ox_4
  have X_4 := Lib.hid (X_3.out.keep hb11)
  clear X_3
  have Ox1_3 := Lib.hid (OwnI.keep Ox1_2.out hb11)
  clear Ox1_2
  have OG_2 := Lib.hid (OwnI.keep OG_1.out hb11)
  clear OG_1
  have BG_1 := Lib.hid (BG_0.out.keep hb11)
  clear BG_0
  have A11_ := Lib.hid (A10_.out.trans (hb11.mono A10_.out.size))
  clear A10_
  obtain ⟨c0K, c1K, -⟩ := K_10.out.two
  obtain ⟨c0BW, c1BW, -⟩ := BW_6.out.two
  obtain ⟨c0X, c1X, -⟩ := X_4.out.two
  obtain ⟨c0BG, c1BG, -⟩ := BG_1.out.two
  go_upto_region 13 with fail
  have RD := Lib.hid (show RowZ w11.drew A n ss from HR.out.below A11_.out.drew)
  have XD := Lib.hid (show IsBlk w11.drew _ 26 #[.slice (some ⟨gx, 0, none⟩) n n, .bool cp] from X_4.out)
  have OD := Lib.hid (show OwnI 3 w11.drew _ (.slice (some ⟨gx, 0, none⟩) n n) ss from Ox_5.out)
  have hls : ss.length ≤ 1048576 := by rw [HL.out]; exact h0
  go_cut [56] (fun s wx => s = .bool false ∧ Below w11.heap.size w11 wx)
  case first =>
    go_region_with (first
      | (go_at_call 9; refine (toBars_any A n c ss cp _ h0 RD.out).mono ?_; rintro e wy ⟨gy, rfl, hOy, hby⟩; obtain ⟨r0, r1, -⟩ := (XD.out.keep hby).two; have OD2 := Lib.hid (OwnI.keep OD.out hby); have OY := Lib.hid hOy; clear hOy)
      | (go_at_call 12; refine (eqBars_same _ _ _ _ _ ss cp _ hls OD2.out OY.out).mono ?_; rintro e wz ⟨rfl, hbz⟩))
    all_goals (go_wp2_with fail; go_meet; exact ⟨rfl, (((Below.refl w11.heap.size w11).drew).trans hby).trans (hbz.mono hby.size)⟩)
  case rest =>
    obtain ⟨rfl, hb12⟩ := hcut
    rename World => w12
    clear c0K c1K c0BW c1BW c0X c1X c0BG c1BG
    clear RD XD OD
    have Z12 := Lib.hid (show w11.heap.size ≤ w12.heap.size from hb12.size)
    have K_11 := Lib.hid (K_10.out.keep hb12)
    clear K_10
    have OW_8 := Lib.hid (OwnI.keep OW_7.out hb12)
    clear OW_7
    have BW_7 := Lib.hid (BW_6.out.keep hb12)
    clear BW_6
    have Ox_6 := Lib.hid (OwnI.keep Ox_5.out hb12)
    clear Ox_5
    have X_5 := Lib.hid (X_4.out.keep hb12)
    clear X_4
    have Ox1_4 := Lib.hid (OwnI.keep Ox1_3.out hb12)
    clear Ox1_3
    have OG_3 := Lib.hid (OwnI.keep OG_2.out hb12)
    clear OG_2
    have BG_2 := Lib.hid (BG_1.out.keep hb12)
    clear BG_1
    have A12_ := Lib.hid (A11_.out.trans (hb12.mono A11_.out.size))
    clear A11_
    obtain ⟨c0K, c1K, -⟩ := K_11.out.two
    obtain ⟨c0BW, c1BW, -⟩ := BW_7.out.two
    obtain ⟨c0X, c1X, -⟩ := X_5.out.two
    obtain ⟨c0BG, c1BG, -⟩ := BG_2.out.two
    go_wp2_with fail
    refine (toIntS_any B1 m1 d1 zs1 _ h1 (HZ1.out.below A12_.out)).mono ?_
    rintro e w13 ⟨rfl, hO, hb13, hs⟩
    clear c0K c1K c0BW c1BW c0X c1X c0BG c1BG
    have Z13 := Lib.hid (show w12.heap.size ≤ w13.heap.size from hb13.size)
    have K_12 := Lib.hid (K_11.out.keep hb13)
    clear K_11
    have OW_9 := Lib.hid (OwnI.keep OW_8.out hb13)
    clear OW_8
    have BW_8 := Lib.hid (BW_7.out.keep hb13)
    clear BW_7
    have Ox_7 := Lib.hid (OwnI.keep Ox_6.out hb13)
    clear Ox_6
    have X_6 := Lib.hid (X_5.out.keep hb13)
    clear X_5
    have Ox1_5 := Lib.hid (OwnI.keep Ox1_4.out hb13)
    clear Ox1_4
    have OG_4 := Lib.hid (OwnI.keep OG_3.out hb13)
    clear OG_3
    have BG_3 := Lib.hid (BG_2.out.keep hb13)
    clear BG_2
    have A13_ := Lib.hid (A12_.out.trans (hb13.mono A12_.out.size))
    clear A12_
    clear hs
    try simp only [World.size_alloc] at hO
    have Oy1_0 := Lib.hid hO
    have LOy1 := Lib.hid (fun q hq => OwnI.lt Oy1_0.out q hq)
    clear hO
    obtain ⟨c0K, c1K, -⟩ := K_12.out.two
    obtain ⟨c0BW, c1BW, -⟩ := BW_8.out.two
    obtain ⟨c0X, c1X, -⟩ := X_6.out.two
    obtain ⟨c0BG, c1BG, -⟩ := BG_3.out.two
    go_wp2_with fail
    refine (eqIntS_own (by rw [HZL1.out]; exact h1) Ox1_5.out Oy1_0.out).mono ?_
    rintro e w14 ⟨rfl, hb14⟩
    clear c0K c1K c0BW c1BW c0X c1X c0BG c1BG
    have Z14 := Lib.hid (show w13.heap.size ≤ w14.heap.size from hb14.size)
    have K_13 := Lib.hid (K_12.out.keep hb14)
    clear K_12
    have OW_10 := Lib.hid (OwnI.keep OW_9.out hb14)
    clear OW_9
    have BW_9 := Lib.hid (BW_8.out.keep hb14)
    clear BW_8
    have Ox_8 := Lib.hid (OwnI.keep Ox_7.out hb14)
    clear Ox_7
    have X_7 := Lib.hid (X_6.out.keep hb14)
    clear X_6
    have Ox1_6 := Lib.hid (OwnI.keep Ox1_5.out hb14)
    clear Ox1_5
    have OG_5 := Lib.hid (OwnI.keep OG_4.out hb14)
    clear OG_4
    have BG_4 := Lib.hid (BG_3.out.keep hb14)
    clear BG_3
    have Oy1_1 := Lib.hid (OwnI.keep Oy1_0.out hb14)
    clear Oy1_0
    have A14_ := Lib.hid (A13_.out.trans (hb14.mono A13_.out.size))
    clear A13_
    clear Oy1_1
    have hls2 : ss.length ≤ 1048576 := by rw [HL.out]; exact h0
    obtain ⟨c0K, c1K, -⟩ := K_13.out.two
    obtain ⟨c0BW, c1BW, -⟩ := BW_9.out.two
    obtain ⟨c0X, c1X, -⟩ := X_7.out.two
    obtain ⟨c0BG, c1BG, -⟩ := BG_4.out.two
    go_wp2_with fail
    refine (markBars_any _ n n ss cp _ 1 (by omega) (by omega) _ hls2 Ox_8.out).mono ?_
    rintro e w15 ⟨rfl, hO, hg15⟩
    clear c0K c1K c0BW c1BW c0X c1X c0BG c1BG
    have Z15 := Lib.hid (show w14.heap.size ≤ w15.heap.size from hg15.size)
    have K_14 := Lib.hid (K_13.out.farG hg15 (fun e => by have := LOx.out _ e; have := Z1.out; have := Z2.out; have := Z3.out; have := Z4.out; have := GBW.out; have := Z6.out; have := GX.out; have := Z8.out; have := Z9.out; have := GBG.out; have := Z11.out; have := Z12.out; have := Z13.out; have := Z14.out; have := Z15.out; (try simp only [World.size_alloc] at *); omega))
    clear K_13
    have OW_11 := Lib.hid (OwnI.far OW_10.out hg15 (fun q hq e => by have := LOx.out _ e; have := LOW.out _ hq; have := Z1.out; have := Z2.out; have := Z3.out; have := Z4.out; have := GBW.out; have := Z6.out; have := GX.out; have := Z8.out; have := Z9.out; have := GBG.out; have := Z11.out; have := Z12.out; have := Z13.out; have := Z14.out; have := Z15.out; (try simp only [World.size_alloc] at *); omega))
    clear OW_10
    have BW_10 := Lib.hid (BW_9.out.farG hg15 (fun e => by have := LOx.out _ e; have := Z1.out; have := Z2.out; have := Z3.out; have := Z4.out; have := GBW.out; have := Z6.out; have := GX.out; have := Z8.out; have := Z9.out; have := GBG.out; have := Z11.out; have := Z12.out; have := Z13.out; have := Z14.out; have := Z15.out; (try simp only [World.size_alloc] at *); omega))
    clear BW_9
    have X_8 := Lib.hid (X_7.out.farG hg15 (fun e => by have := LOx.out _ e; have := Z1.out; have := Z2.out; have := Z3.out; have := Z4.out; have := GBW.out; have := Z6.out; have := GX.out; have := Z8.out; have := Z9.out; have := GBG.out; have := Z11.out; have := Z12.out; have := Z13.out; have := Z14.out; have := Z15.out; (try simp only [World.size_alloc] at *); omega))
    clear X_7
    have Ox1_7 := Lib.hid (OwnI.far Ox1_6.out hg15 (fun q hq e => by have := LOx.out _ e; have := LOx1.out _ hq; have := Z1.out; have := Z2.out; have := Z3.out; have := Z4.out; have := GBW.out; have := Z6.out; have := GX.out; have := Z8.out; have := Z9.out; have := GBG.out; have := Z11.out; have := Z12.out; have := Z13.out; have := Z14.out; have := Z15.out; (try simp only [World.size_alloc] at *); omega))
    clear Ox1_6
    have OG_6 := Lib.hid (OwnI.far OG_5.out hg15 (fun q hq e => by have := LOx.out _ e; have := LOG.out _ hq; have := Z1.out; have := Z2.out; have := Z3.out; have := Z4.out; have := GBW.out; have := Z6.out; have := GX.out; have := Z8.out; have := Z9.out; have := GBG.out; have := Z11.out; have := Z12.out; have := Z13.out; have := Z14.out; have := Z15.out; (try simp only [World.size_alloc] at *); omega))
    clear OG_5
    have BG_5 := Lib.hid (BG_4.out.farG hg15 (fun e => by have := LOx.out _ e; have := Z1.out; have := Z2.out; have := Z3.out; have := Z4.out; have := GBW.out; have := Z6.out; have := GX.out; have := Z8.out; have := Z9.out; have := GBG.out; have := Z11.out; have := Z12.out; have := Z13.out; have := Z14.out; have := Z15.out; (try simp only [World.size_alloc] at *); omega))
    clear BG_4
    have Ox_9 := Lib.hid hO
    clear Ox_8 hO
    have A15_ := Lib.hid (A14_.out.grown hg15 A14_.out.size (fun q hq => by have := LOx.out q hq; have := Z1.out; have := Z2.out; have := Z3.out; have := Z4.out; have := GBW.out; have := Z6.out; have := GX.out; have := Z8.out; have := Z9.out; have := GBG.out; have := Z11.out; have := Z12.out; have := Z13.out; have := Z14.out; have := Z15.out; (try simp only [World.size_alloc] at *); omega))
    clear A14_
    clear Ox_9
    clear X_8
    have hlz1 : zs1.length ≤ 1048576 := by rw [HZL1.out]; exact h1
    obtain ⟨c0K, c1K, -⟩ := K_14.out.two
    obtain ⟨c0BW, c1BW, -⟩ := BW_10.out.two
    obtain ⟨c0BG, c1BG, -⟩ := BG_5.out.two
    go_wp2_with fail
    refine (markIntS_gen _ zs1 _ ((1 : Int) + (ss.length : Int)) (by omega) (by omega) _ hlz1 Ox1_7.out).mono ?_
    rintro e w16 ⟨rfl, hO, hg16⟩
    clear c0K c1K c0BW c1BW c0BG c1BG
    have Z16 := Lib.hid (show w15.heap.size ≤ w16.heap.size from hg16.size)
    have K_15 := Lib.hid (K_14.out.farG hg16 (fun e => by have := LOx1.out _ e; have := Z1.out; have := Z2.out; have := Z3.out; have := Z4.out; have := GBW.out; have := Z6.out; have := GX.out; have := Z8.out; have := Z9.out; have := GBG.out; have := Z11.out; have := Z12.out; have := Z13.out; have := Z14.out; have := Z15.out; have := Z16.out; (try simp only [World.size_alloc] at *); omega))
    clear K_14
    have OW_12 := Lib.hid (OwnI.far OW_11.out hg16 (fun q hq e => by have := LOx1.out _ e; have := LOW.out _ hq; have := Z1.out; have := Z2.out; have := Z3.out; have := Z4.out; have := GBW.out; have := Z6.out; have := GX.out; have := Z8.out; have := Z9.out; have := GBG.out; have := Z11.out; have := Z12.out; have := Z13.out; have := Z14.out; have := Z15.out; have := Z16.out; (try simp only [World.size_alloc] at *); omega))
    clear OW_11
    have BW_11 := Lib.hid (BW_10.out.farG hg16 (fun e => by have := LOx1.out _ e; have := Z1.out; have := Z2.out; have := Z3.out; have := Z4.out; have := GBW.out; have := Z6.out; have := GX.out; have := Z8.out; have := Z9.out; have := GBG.out; have := Z11.out; have := Z12.out; have := Z13.out; have := Z14.out; have := Z15.out; have := Z16.out; (try simp only [World.size_alloc] at *); omega))
    clear BW_10
    have OG_7 := Lib.hid (OwnI.far OG_6.out hg16 (fun q hq e => by have := LOx1.out _ e; have := LOG.out _ hq; have := Z1.out; have := Z2.out; have := Z3.out; have := Z4.out; have := GBW.out; have := Z6.out; have := GX.out; have := Z8.out; have := Z9.out; have := GBG.out; have := Z11.out; have := Z12.out; have := Z13.out; have := Z14.out; have := Z15.out; have := Z16.out; (try simp only [World.size_alloc] at *); omega))
    clear OG_6
    have BG_6 := Lib.hid (BG_5.out.farG hg16 (fun e => by have := LOx1.out _ e; have := Z1.out; have := Z2.out; have := Z3.out; have := Z4.out; have := GBW.out; have := Z6.out; have := GX.out; have := Z8.out; have := Z9.out; have := GBG.out; have := Z11.out; have := Z12.out; have := Z13.out; have := Z14.out; have := Z15.out; have := Z16.out; (try simp only [World.size_alloc] at *); omega))
    clear BG_5
    have Ox1_8 := Lib.hid hO
    clear Ox1_7 hO
    have A16_ := Lib.hid (A15_.out.grown hg16 A15_.out.size (fun q hq => by have := LOx1.out q hq; have := Z1.out; have := Z2.out; have := Z3.out; have := Z4.out; have := GBW.out; have := Z6.out; have := GX.out; have := Z8.out; have := Z9.out; have := GBG.out; have := Z11.out; have := Z12.out; have := Z13.out; have := Z14.out; have := Z15.out; have := Z16.out; (try simp only [World.size_alloc] at *); omega))
    clear A15_
    clear Ox1_8
    have hm1 : ¬ ((((1 : Int) + (ss.length : Int)) + (zs1.length : Int)) < 0) := by omega
    obtain ⟨c0K, c1K, -⟩ := K_15.out.two
    obtain ⟨c0BW, c1BW, -⟩ := BW_11.out.two
    obtain ⟨c0BG, c1BG, -⟩ := BG_6.out.two
    go_wp2_with fail
    refine (eqBars_same _ _ _ _ _ F1 F2 _ hFl OG_7.out OW_12.out).mono ?_
    rintro e w17 ⟨rfl, hb17⟩
    clear c0K c1K c0BW c1BW c0BG c1BG
    have Z17 := Lib.hid (show w16.heap.size ≤ w17.heap.size from hb17.size)
    have K_16 := Lib.hid (K_15.out.keep hb17)
    clear K_15
    have OW_13 := Lib.hid (OwnI.keep OW_12.out hb17)
    clear OW_12
    have BW_12 := Lib.hid (BW_11.out.keep hb17)
    clear BW_11
    have OG_8 := Lib.hid (OwnI.keep OG_7.out hb17)
    clear OG_7
    have BG_7 := Lib.hid (BG_6.out.keep hb17)
    clear BG_6
    have A17_ := Lib.hid (A16_.out.trans (hb17.mono A16_.out.size))
    clear A16_
    obtain ⟨c0K, c1K, -⟩ := K_16.out.two
    obtain ⟨c0BW, c1BW, -⟩ := BW_12.out.two
    obtain ⟨c0BG, c1BG, -⟩ := BG_7.out.two
    go_wp2_with fail
    refine (markBars_any _ _ _ F1 F2 _ 1 (by omega) (by omega) _ hFl OG_8.out).mono ?_
    rintro e w18 ⟨rfl, hO, hg18⟩
    clear c0K c1K c0BW c1BW c0BG c1BG
    have Z18 := Lib.hid (show w17.heap.size ≤ w18.heap.size from hg18.size)
    have K_17 := Lib.hid (K_16.out.farG hg18 (fun e => by have := LOG.out _ e; have := Z1.out; have := Z2.out; have := Z3.out; have := Z4.out; have := GBW.out; have := Z6.out; have := GX.out; have := Z8.out; have := Z9.out; have := GBG.out; have := Z11.out; have := Z12.out; have := Z13.out; have := Z14.out; have := Z15.out; have := Z16.out; have := Z17.out; have := Z18.out; (try simp only [World.size_alloc] at *); omega))
    clear K_16
    have OW_14 := Lib.hid (OwnI.far OW_13.out hg18 (fun q hq e => by have := LOG.out _ e; have := LOW.out _ hq; have := Z1.out; have := Z2.out; have := Z3.out; have := Z4.out; have := GBW.out; have := Z6.out; have := GX.out; have := Z8.out; have := Z9.out; have := GBG.out; have := Z11.out; have := Z12.out; have := Z13.out; have := Z14.out; have := Z15.out; have := Z16.out; have := Z17.out; have := Z18.out; (try simp only [World.size_alloc] at *); omega))
    clear OW_13
    have BW_13 := Lib.hid (BW_12.out.farG hg18 (fun e => by have := LOG.out _ e; have := Z1.out; have := Z2.out; have := Z3.out; have := Z4.out; have := GBW.out; have := Z6.out; have := GX.out; have := Z8.out; have := Z9.out; have := GBG.out; have := Z11.out; have := Z12.out; have := Z13.out; have := Z14.out; have := Z15.out; have := Z16.out; have := Z17.out; have := Z18.out; (try simp only [World.size_alloc] at *); omega))
    clear BW_12
    have BG_8 := Lib.hid (BG_7.out.farG hg18 (fun e => by have := LOG.out _ e; have := Z1.out; have := Z2.out; have := Z3.out; have := Z4.out; have := GBW.out; have := Z6.out; have := GX.out; have := Z8.out; have := Z9.out; have := GBG.out; have := Z11.out; have := Z12.out; have := Z13.out; have := Z14.out; have := Z15.out; have := Z16.out; have := Z17.out; have := Z18.out; (try simp only [World.size_alloc] at *); omega))
    clear BG_7
    have OG_9 := Lib.hid hO
    clear OG_8 hO
    have A18_ := Lib.hid (A17_.out.grown hg18 A17_.out.size (fun q hq => by have := LOG.out q hq; have := Z1.out; have := Z2.out; have := Z3.out; have := Z4.out; have := GBW.out; have := Z6.out; have := GX.out; have := Z8.out; have := Z9.out; have := GBG.out; have := Z11.out; have := Z12.out; have := Z13.out; have := Z14.out; have := Z15.out; have := Z16.out; have := Z17.out; have := Z18.out; (try simp only [World.size_alloc] at *); omega))
    clear A17_
    have hm2 : ¬ ((1 : Int) + (F1.length : Int) < 0) := by omega
    obtain ⟨c0K, c1K, -⟩ := K_17.out.two
    obtain ⟨c0BW, c1BW, -⟩ := BW_13.out.two
    obtain ⟨c0BG, c1BG, -⟩ := BG_8.out.two
    go_wp2_with fail
    refine (heldBars_any _ _ _ F1.length F2 _ 1 (by omega) (by omega) _ hFl OG_9.out).mono ?_
    rintro e w19 ⟨rfl, hb19⟩
    clear c0K c1K c0BW c1BW c0BG c1BG
    have Z19 := Lib.hid (show w18.heap.size ≤ w19.heap.size from hb19.size)
    have K_18 := Lib.hid (K_17.out.keep hb19)
    clear K_17
    have OW_15 := Lib.hid (OwnI.keep OW_14.out hb19)
    clear OW_14
    have BW_14 := Lib.hid (BW_13.out.keep hb19)
    clear BW_13
    have OG_10 := Lib.hid (OwnI.keep OG_9.out hb19)
    clear OG_9
    have BG_9 := Lib.hid (BG_8.out.keep hb19)
    clear BG_8
    have A19_ := Lib.hid (A18_.out.trans (hb19.mono A18_.out.size))
    clear A18_
    obtain ⟨c0K, c1K, -⟩ := K_18.out.two
    obtain ⟨c0BW, c1BW, -⟩ := BW_14.out.two
    obtain ⟨c0BG, c1BG, -⟩ := BG_9.out.two
    go_wp2_with fail
    refine (toBars_any A n c ss cp _ h0 (HR.out.below A19_.out)).mono ?_
    rintro e w20 ⟨gz, rfl, hO, hb20⟩
    clear c0K c1K c0BW c1BW c0BG c1BG
    have Z20 := Lib.hid (show w19.heap.size ≤ w20.heap.size from hb20.size)
    have K_19 := Lib.hid (K_18.out.keep hb20)
    clear K_18
    have OW_16 := Lib.hid (OwnI.keep OW_15.out hb20)
    clear OW_15
    have BW_15 := Lib.hid (BW_14.out.keep hb20)
    clear BW_14
    have OG_11 := Lib.hid (OwnI.keep OG_10.out hb20)
    clear OG_10
    have BG_10 := Lib.hid (BG_9.out.keep hb20)
    clear BG_9
    have A20_ := Lib.hid (A19_.out.trans (hb20.mono A19_.out.size))
    clear A19_
    have Oz_0 := Lib.hid hO
    have LOz := Lib.hid (fun q hq => OwnI.lt Oz_0.out q hq)
    clear hO
    obtain ⟨c0K, c1K, -⟩ := K_19.out.two
    obtain ⟨c0BW, c1BW, -⟩ := BW_15.out.two
    obtain ⟨c0BG, c1BG, -⟩ := BG_10.out.two
    go_wp2_with fail
    refine (toIntS_any B1 m1 d1 zs1 _ h1 (HZ1.out.below A20_.out)).mono ?_
    rintro e w21 ⟨rfl, hO, hb21, hs⟩
    clear c0K c1K c0BW c1BW c0BG c1BG
    have Z21 := Lib.hid (show w20.heap.size ≤ w21.heap.size from hb21.size)
    have K_20 := Lib.hid (K_19.out.keep hb21)
    clear K_19
    have OW_17 := Lib.hid (OwnI.keep OW_16.out hb21)
    clear OW_16
    have BW_16 := Lib.hid (BW_15.out.keep hb21)
    clear BW_15
    have OG_12 := Lib.hid (OwnI.keep OG_11.out hb21)
    clear OG_11
    have BG_11 := Lib.hid (BG_10.out.keep hb21)
    clear BG_10
    have Oz_1 := Lib.hid (OwnI.keep Oz_0.out hb21)
    clear Oz_0
    have A21_ := Lib.hid (A20_.out.trans (hb21.mono A20_.out.size))
    clear A20_
    clear hs
    try simp only [World.size_alloc] at hO
    have Oz1_0 := Lib.hid hO
    have LOz1 := Lib.hid (fun q hq => OwnI.lt Oz1_0.out q hq)
    clear hO
    obtain ⟨c0K, c1K, -⟩ := K_20.out.two
    obtain ⟨c0BW, c1BW, -⟩ := BW_16.out.two
    obtain ⟨c0BG, c1BG, -⟩ := BG_11.out.two
    go_wp2_with fail
    refine (barsRun_any _ n n ss cp _ m1 m1 zs1 _ h0 (OwnI.rowZ Oz_1.out) h1 (OwnI.rowZ Oz1_0.out)).mono ?_
    rintro e w22 ⟨vH, rfl, hO, hb22⟩
    clear c0K c1K c0BW c1BW c0BG c1BG
    have Z22 := Lib.hid (show w21.heap.size ≤ w22.heap.size from hb22.size)
    have K_21 := Lib.hid (K_20.out.keep hb22)
    clear K_20
    have OW_18 := Lib.hid (OwnI.keep OW_17.out hb22)
    clear OW_17
    have BW_17 := Lib.hid (BW_16.out.keep hb22)
    clear BW_16
    have OG_13 := Lib.hid (OwnI.keep OG_12.out hb22)
    clear OG_12
    have BG_12 := Lib.hid (BG_11.out.keep hb22)
    clear BG_11
    have Oz_2 := Lib.hid (OwnI.keep Oz_1.out hb22)
    clear Oz_1
    have Oz1_1 := Lib.hid (OwnI.keep Oz1_0.out hb22)
    clear Oz1_0
    have A22_ := Lib.hid (A21_.out.trans (hb22.mono A21_.out.size))
    clear A21_
    rw [← HFE.out] at hO
    rw [← HFE.out]
    dsimp only [vR] at hO ⊢
    obtain ⟨VH, uH, rfl⟩ := OwnI.shape hO
    have OH_0 := Lib.hid hO
    have LOH := Lib.hid (fun q hq => OwnI.lt OH_0.out q hq)
    clear hO
    have K_22 := Lib.hid (K_21.out.alloc (.cells #[.slice VH F1.length uH, .bool F2] 26))
    clear K_21
    have OW_19 := Lib.hid (OwnI.alloc OW_18.out (.cells #[.slice VH F1.length uH, .bool F2] 26))
    clear OW_18
    have BW_18 := Lib.hid (BW_17.out.alloc (.cells #[.slice VH F1.length uH, .bool F2] 26))
    clear BW_17
    have OG_14 := Lib.hid (OwnI.alloc OG_13.out (.cells #[.slice VH F1.length uH, .bool F2] 26))
    clear OG_13
    have BG_13 := Lib.hid (BG_12.out.alloc (.cells #[.slice VH F1.length uH, .bool F2] 26))
    clear BG_12
    have Oz_3 := Lib.hid (OwnI.alloc Oz_2.out (.cells #[.slice VH F1.length uH, .bool F2] 26))
    clear Oz_2
    have Oz1_2 := Lib.hid (OwnI.alloc Oz1_1.out (.cells #[.slice VH F1.length uH, .bool F2] 26))
    clear Oz1_1
    have OH_1 := Lib.hid (OwnI.alloc OH_0.out (.cells #[.slice VH F1.length uH, .bool F2] 26))
    clear OH_0
    have BH_0 := Lib.hid (IsBlk.new w22 26 #[.slice VH F1.length uH, .bool F2])
    have A23_ := Lib.hid (A22_.out.alloc A22_.out.size (.cells #[.slice VH F1.length uH, .bool F2] 26))
    clear A22_
    have GBH := Lib.hid (show w22.heap.size < (w22.alloc (.cells #[.slice VH F1.length uH, .bool F2] 26)).heap.size by simp)
    clear Oz_3
    clear Oz1_2
    obtain ⟨c0K, c1K, -⟩ := K_22.out.two
    obtain ⟨c0BW, c1BW, -⟩ := BW_18.out.two
    obtain ⟨c0BG, c1BG, -⟩ := BG_13.out.two
    obtain ⟨c0BH, c1BH, -⟩ := BH_0.out.two
    go_wp2_with fail
    refine (eqBars_same _ _ _ _ _ F1 F2 _ hFl OH_1.out OW_19.out).mono ?_
    rintro e w24 ⟨rfl, hb24⟩
    clear c0K c1K c0BW c1BW c0BG c1BG c0BH c1BH
    have Z24 := Lib.hid (show (w22.alloc (.cells #[.slice VH F1.length uH, .bool F2] 26)).heap.size ≤ w24.heap.size from hb24.size)
    have K_23 := Lib.hid (K_22.out.keep hb24)
    clear K_22
    have OW_20 := Lib.hid (OwnI.keep OW_19.out hb24)
    clear OW_19
    have BW_19 := Lib.hid (BW_18.out.keep hb24)
    clear BW_18
    have OG_15 := Lib.hid (OwnI.keep OG_14.out hb24)
    clear OG_14
    have BG_14 := Lib.hid (BG_13.out.keep hb24)
    clear BG_13
    have OH_2 := Lib.hid (OwnI.keep OH_1.out hb24)
    clear OH_1
    have BH_1 := Lib.hid (BH_0.out.keep hb24)
    clear BH_0
    have A24_ := Lib.hid (A23_.out.trans (hb24.mono A23_.out.size))
    clear A23_
    obtain ⟨c0K, c1K, -⟩ := K_23.out.two
    obtain ⟨c0BW, c1BW, -⟩ := BW_19.out.two
    obtain ⟨c0BG, c1BG, -⟩ := BG_14.out.two
    obtain ⟨c0BH, c1BH, -⟩ := BH_1.out.two
    go_wp2_with fail
    refine (heldBars_any _ _ _ F1.length F2 _ 1 (by omega) (by omega) _ hFl OG_15.out).mono ?_
    rintro e w25 ⟨rfl, hb25⟩
    clear c0K c1K c0BW c1BW c0BG c1BG c0BH c1BH
    have Z25 := Lib.hid (show w24.heap.size ≤ w25.heap.size from hb25.size)
    have K_24 := Lib.hid (K_23.out.keep hb25)
    clear K_23
    have OW_21 := Lib.hid (OwnI.keep OW_20.out hb25)
    clear OW_20
    have BW_20 := Lib.hid (BW_19.out.keep hb25)
    clear BW_19
    have OG_16 := Lib.hid (OwnI.keep OG_15.out hb25)
    clear OG_15
    have BG_15 := Lib.hid (BG_14.out.keep hb25)
    clear BG_14
    have OH_3 := Lib.hid (OwnI.keep OH_2.out hb25)
    clear OH_2
    have BH_2 := Lib.hid (BH_1.out.keep hb25)
    clear BH_1
    have A25_ := Lib.hid (A24_.out.trans (hb25.mono A24_.out.size))
    clear A24_
    obtain ⟨c0K, c1K, -⟩ := K_24.out.two
    obtain ⟨c0BW, c1BW, -⟩ := BW_20.out.two
    obtain ⟨c0BG, c1BG, -⟩ := BG_15.out.two
    obtain ⟨c0BH, c1BH, -⟩ := BH_2.out.two
    go_wp2
    go_ret
    exact ⟨rfl, A25_.out⟩
end Go.Proofs.Ytafgfhjlkdjngaa
