/- The exact law of BarsDo: the walk (written by program). -/
import Derived.Test.YtpcefbebknjkiaaBrB
import Derived.Test.YtpcefbebknjkiaaBrE
import Derived.Deep.DeepCutAuto
namespace Go.Proofs.Ytpcefbebknjkiaa
open Go.ChangeShapes Go.WideShapes Go.ChangeAt Go.RowKit

set_option maxRecDepth 100000 in
set_option maxHeartbeats 8000000 in
theorem exactBarsDo_walk (w : World) (A : Option Addr) (n c : Nat) (ss : List Int) (cp : Bool) (hn : n ≤ 9223372036854775807) (hr : RowZ w A n ss) (x1 : Int) (hx1 : x1 ≤ 9223372036854775807) :
    Calls Try.prog 4 #[.agg #[.slice A n c, .bool cp], .int .i64 x1] w fun e w' => e = .returned (.bool true) ∧ Below w.heap.size w w' := by
  have HR := Lib.hid hr
  have HL := Lib.hid hr.len
  clear hr
  have HX1 := Lib.hid hx1
  clear hx1
  have b0 := below_bx w (.cells #[.slice A n c, .bool cp] 24)
  have K0 := Lib.hid (IsBlk.new w 24 #[.slice A n c, .bool cp])
  obtain ⟨k0, k1, -⟩ := K0.out.two
  by_cases h0 : n ≤ 1048576
  rotate_left
  · go_enter Try.func4, Try.ntmps4
    go_wp2_with fail
    refine (szBars_any A n c cp hn _).mono ?_
    rintro e w1 ⟨rfl, hb1⟩
    rw [if_neg h0]
    go_wp2
    go_ret
    exact ⟨rfl, b0.trans (hb1.mono b0.size)⟩
  obtain ⟨F, hF⟩ : ∃ F, F = bdF (ss, cp) x1 := ⟨_, rfl⟩
  have hFl : F.1.length ≤ 1048576 := by rw [hF]; exact (by rw [bdF]; split; rw [do_len]; simp only; rw [HL.out]; exact h0; simp)
  have HFE := Lib.hid hF
  clear hF
  obtain ⟨F1, F2⟩ := F
  obtain ⟨T, hT⟩ : ∃ T, T = bdB (ss, cp) x1 := ⟨_, rfl⟩
  have HT := Lib.hid hT
  clear hT
  try dsimp only at hFl
  go_enter Try.func4, Try.ntmps4
  go_wp2_with fail
  refine (szBars_any A n c cp hn _).mono ?_
  rintro e w1 ⟨rfl, hb1⟩
  rw [if_pos h0]
  have hpos : ¬ ((1048576 : Int) - (n : Int) < 0) := by omega
  have A1 := Lib.hid (show Below w.heap.size w w1 from b0.trans (hb1.mono b0.size))
  have K_0 := Lib.hid (K0.out.keep hb1)
  clear k0 k1 hb1 b0 K0
  have Z1 := Lib.hid (K_0.out.lt)
  obtain ⟨c0K, c1K, -⟩ := K_0.out.two
  go_wp2_with fail
  refine (toBars_any A n c ss cp _ h0 (HR.out.below A1.out)).mono ?_
  rintro e w2 ⟨gs, rfl, hO, hb2⟩
  clear c0K c1K
  have Z2 := Lib.hid (show w1.heap.size ≤ w2.heap.size from hb2.size)
  have K_1 := Lib.hid (K_0.out.keep hb2)
  clear K_0
  have A2_ := Lib.hid (A1.out.trans (hb2.mono A1.out.size))
  clear A1
  have Os_0 := Lib.hid hO
  have LOs := Lib.hid (fun q hq => OwnI.lt Os_0.out q hq)
  clear hO
  obtain ⟨c0K, c1K, -⟩ := K_1.out.two
  go_wp2_with fail
  refine (specBarsDo_any _ n n ss cp x1 _ h0 (OwnI.rowZ Os_0.out) HX1.out).mono ?_
  rintro e w3 ⟨vW, rfl, hO, hb3⟩
  clear c0K c1K
  have Z3 := Lib.hid (show w2.heap.size ≤ w3.heap.size from hb3.size)
  have K_2 := Lib.hid (K_1.out.keep hb3)
  clear K_1
  have Os_1 := Lib.hid (OwnI.keep Os_0.out hb3)
  clear Os_0
  have A3_ := Lib.hid (A2_.out.trans (hb3.mono A2_.out.size))
  clear A2_
  rw [← HFE.out] at hO
  rw [← HFE.out, ← HT.out]
  dsimp only [vR] at hO ⊢
  obtain ⟨VW, uW, rfl⟩ := OwnI.shape hO
  have OW_0 := Lib.hid hO
  have LOW := Lib.hid (fun q hq => OwnI.lt OW_0.out q hq)
  clear hO
  have K_3 := Lib.hid (K_2.out.alloc (.cells #[.slice VW F1.length uW, .bool F2] 27))
  clear K_2
  have Os_2 := Lib.hid (OwnI.alloc Os_1.out (.cells #[.slice VW F1.length uW, .bool F2] 27))
  clear Os_1
  have OW_1 := Lib.hid (OwnI.alloc OW_0.out (.cells #[.slice VW F1.length uW, .bool F2] 27))
  clear OW_0
  have BW_0 := Lib.hid (IsBlk.new w3 27 #[.slice VW F1.length uW, .bool F2])
  have A4_ := Lib.hid (A3_.out.alloc A3_.out.size (.cells #[.slice VW F1.length uW, .bool F2] 27))
  clear A3_
  have GBW := Lib.hid (show w3.heap.size < (w3.alloc (.cells #[.slice VW F1.length uW, .bool F2] 27)).heap.size by simp)
  clear Os_2
  obtain ⟨c0K, c1K, -⟩ := K_3.out.two
  obtain ⟨c0BW, c1BW, -⟩ := BW_0.out.two
  go_wp2_with fail
  refine (toBars_any A n c ss cp _ h0 (HR.out.below A4_.out)).mono ?_
  rintro e w5 ⟨gx, rfl, hO, hb5⟩
  clear c0K c1K c0BW c1BW
  have Z5 := Lib.hid (show (w3.alloc (.cells #[.slice VW F1.length uW, .bool F2] 27)).heap.size ≤ w5.heap.size from hb5.size)
  have K_4 := Lib.hid (K_3.out.keep hb5)
  clear K_3
  have OW_2 := Lib.hid (OwnI.keep OW_1.out hb5)
  clear OW_1
  have BW_1 := Lib.hid (BW_0.out.keep hb5)
  clear BW_0
  have A5_ := Lib.hid (A4_.out.trans (hb5.mono A4_.out.size))
  clear A4_
  have Ox_0 := Lib.hid hO
  have LOx := Lib.hid (fun q hq => OwnI.lt Ox_0.out q hq)
  clear hO
  have K_5 := Lib.hid (K_4.out.alloc (.cells #[.slice (some ⟨gx, 0, none⟩) n n, .bool cp] 27))
  clear K_4
  have OW_3 := Lib.hid (OwnI.alloc OW_2.out (.cells #[.slice (some ⟨gx, 0, none⟩) n n, .bool cp] 27))
  clear OW_2
  have BW_2 := Lib.hid (BW_1.out.alloc (.cells #[.slice (some ⟨gx, 0, none⟩) n n, .bool cp] 27))
  clear BW_1
  have Ox_1 := Lib.hid (OwnI.alloc Ox_0.out (.cells #[.slice (some ⟨gx, 0, none⟩) n n, .bool cp] 27))
  clear Ox_0
  have X_0 := Lib.hid (IsBlk.new w5 27 #[.slice (some ⟨gx, 0, none⟩) n n, .bool cp])
  have A6_ := Lib.hid (A5_.out.alloc A5_.out.size (.cells #[.slice (some ⟨gx, 0, none⟩) n n, .bool cp] 27))
  clear A5_
  have GX := Lib.hid (show w5.heap.size < (w5.alloc (.cells #[.slice (some ⟨gx, 0, none⟩) n n, .bool cp] 27)).heap.size by simp)
  obtain ⟨c0K, c1K, -⟩ := K_5.out.two
  obtain ⟨c0BW, c1BW, -⟩ := BW_2.out.two
  obtain ⟨c0X, c1X, -⟩ := X_0.out.two
  go_wp2_with fail
  refine (barsDo_any _ n n ss cp x1 _ h0 (OwnI.rowZ Ox_1.out)).mono ?_
  rintro e w7 ⟨vG, rfl, hO, hb7⟩
  clear c0K c1K c0BW c1BW c0X c1X
  have Z7 := Lib.hid (show (w5.alloc (.cells #[.slice (some ⟨gx, 0, none⟩) n n, .bool cp] 27)).heap.size ≤ w7.heap.size from hb7.size)
  have K_6 := Lib.hid (K_5.out.keep hb7)
  clear K_5
  have OW_4 := Lib.hid (OwnI.keep OW_3.out hb7)
  clear OW_3
  have BW_3 := Lib.hid (BW_2.out.keep hb7)
  clear BW_2
  have Ox_2 := Lib.hid (OwnI.keep Ox_1.out hb7)
  clear Ox_1
  have X_1 := Lib.hid (X_0.out.keep hb7)
  clear X_0
  have A7_ := Lib.hid (A6_.out.trans (hb7.mono A6_.out.size))
  clear A6_
  rw [← HFE.out] at hO
  rw [← HFE.out, ← HT.out]
  dsimp only [vR] at hO ⊢
  obtain ⟨VG, uG, rfl⟩ := OwnI.shape hO
  have OG_0 := Lib.hid hO
  have LOG := Lib.hid (fun q hq => OwnI.lt OG_0.out q hq)
  clear hO
  have K_7 := Lib.hid (K_6.out.alloc (.cells #[.slice VG F1.length uG, .bool F2] 27))
  clear K_6
  have OW_5 := Lib.hid (OwnI.alloc OW_4.out (.cells #[.slice VG F1.length uG, .bool F2] 27))
  clear OW_4
  have BW_4 := Lib.hid (BW_3.out.alloc (.cells #[.slice VG F1.length uG, .bool F2] 27))
  clear BW_3
  have Ox_3 := Lib.hid (OwnI.alloc Ox_2.out (.cells #[.slice VG F1.length uG, .bool F2] 27))
  clear Ox_2
  have X_2 := Lib.hid (X_1.out.alloc (.cells #[.slice VG F1.length uG, .bool F2] 27))
  clear X_1
  have OG_1 := Lib.hid (OwnI.alloc OG_0.out (.cells #[.slice VG F1.length uG, .bool F2] 27))
  clear OG_0
  have BG_0 := Lib.hid (IsBlk.new w7 27 #[.slice VG F1.length uG, .bool F2])
  have A8_ := Lib.hid (A7_.out.alloc A7_.out.size (.cells #[.slice VG F1.length uG, .bool F2] 27))
  clear A7_
  have GBG := Lib.hid (show w7.heap.size < (w7.alloc (.cells #[.slice VG F1.length uG, .bool F2] 27)).heap.size by simp)
  obtain ⟨c0K, c1K, -⟩ := K_7.out.two
  obtain ⟨c0BW, c1BW, -⟩ := BW_4.out.two
  obtain ⟨c0X, c1X, -⟩ := X_2.out.two
  obtain ⟨c0BG, c1BG, -⟩ := BG_0.out.two
  go_wp2_with fail
  refine (eqBars_same _ _ _ _ _ F1 F2 _ hFl OG_1.out OW_5.out).mono ?_
  rintro e w9 ⟨rfl, hb9⟩
  clear c0K c1K c0BW c1BW c0X c1X c0BG c1BG
  have Z9 := Lib.hid (show (w7.alloc (.cells #[.slice VG F1.length uG, .bool F2] 27)).heap.size ≤ w9.heap.size from hb9.size)
  have K_8 := Lib.hid (K_7.out.keep hb9)
  clear K_7
  have OW_6 := Lib.hid (OwnI.keep OW_5.out hb9)
  clear OW_5
  have BW_5 := Lib.hid (BW_4.out.keep hb9)
  clear BW_4
  have Ox_4 := Lib.hid (OwnI.keep Ox_3.out hb9)
  clear Ox_3
  have X_3 := Lib.hid (X_2.out.keep hb9)
  clear X_2
  have OG_2 := Lib.hid (OwnI.keep OG_1.out hb9)
  clear OG_1
  have BG_1 := Lib.hid (BG_0.out.keep hb9)
  clear BG_0
  have A9_ := Lib.hid (A8_.out.trans (hb9.mono A8_.out.size))
  clear A8_
  obtain ⟨c0K, c1K, -⟩ := K_8.out.two
  obtain ⟨c0BW, c1BW, -⟩ := BW_5.out.two
  obtain ⟨c0X, c1X, -⟩ := X_3.out.two
  obtain ⟨c0BG, c1BG, -⟩ := BG_1.out.two
  go_upto_region 10 with fail
  have RD := Lib.hid (show RowZ w9.drew A n ss from HR.out.below A9_.out.drew)
  have XD := Lib.hid (show IsBlk w9.drew _ 27 #[.slice (some ⟨gx, 0, none⟩) n n, .bool cp] from X_3.out)
  have OD := Lib.hid (show OwnI 3 w9.drew _ (.slice (some ⟨gx, 0, none⟩) n n) ss from Ox_4.out)
  have hls : ss.length ≤ 1048576 := by rw [HL.out]; exact h0
  go_cut [49] (fun s wx => s = .bool false ∧ Below w9.heap.size w9 wx)
  case first =>
    go_region_with (first
      | (go_at_call 10; refine (toBars_any A n c ss cp _ h0 RD.out).mono ?_; rintro e wy ⟨gy, rfl, hOy, hby⟩; obtain ⟨r0, r1, -⟩ := (XD.out.keep hby).two; have OD2 := Lib.hid (OwnI.keep OD.out hby); have OY := Lib.hid hOy; clear hOy)
      | (go_at_call 12; refine (eqBars_same _ _ _ _ _ ss cp _ hls OD2.out OY.out).mono ?_; rintro e wz ⟨rfl, hbz⟩))
    all_goals (go_wp2_with fail; go_meet; exact ⟨rfl, (((Below.refl w9.heap.size w9).drew).trans hby).trans (hbz.mono hby.size)⟩)
  case rest =>
    obtain ⟨rfl, hb10⟩ := hcut
    rename World => w10
    clear c0K c1K c0BW c1BW c0X c1X c0BG c1BG
    clear RD XD OD
    have Z10 := Lib.hid (show w9.heap.size ≤ w10.heap.size from hb10.size)
    have K_9 := Lib.hid (K_8.out.keep hb10)
    clear K_8
    have OW_7 := Lib.hid (OwnI.keep OW_6.out hb10)
    clear OW_6
    have BW_6 := Lib.hid (BW_5.out.keep hb10)
    clear BW_5
    have Ox_5 := Lib.hid (OwnI.keep Ox_4.out hb10)
    clear Ox_4
    have X_4 := Lib.hid (X_3.out.keep hb10)
    clear X_3
    have OG_3 := Lib.hid (OwnI.keep OG_2.out hb10)
    clear OG_2
    have BG_2 := Lib.hid (BG_1.out.keep hb10)
    clear BG_1
    have A10_ := Lib.hid (A9_.out.trans (hb10.mono A9_.out.size))
    clear A9_
    have hls2 : ss.length ≤ 1048576 := by rw [HL.out]; exact h0
    obtain ⟨c0K, c1K, -⟩ := K_9.out.two
    obtain ⟨c0BW, c1BW, -⟩ := BW_6.out.two
    obtain ⟨c0X, c1X, -⟩ := X_4.out.two
    obtain ⟨c0BG, c1BG, -⟩ := BG_2.out.two
    go_wp2_with fail
    refine (markBars_any _ n n ss cp _ 1 (by omega) (by omega) _ hls2 Ox_5.out).mono ?_
    rintro e w11 ⟨rfl, hO, hg11⟩
    clear c0K c1K c0BW c1BW c0X c1X c0BG c1BG
    have Z11 := Lib.hid (show w10.heap.size ≤ w11.heap.size from hg11.size)
    have K_10 := Lib.hid (K_9.out.farG hg11 (fun e => by have := LOx.out _ e; have := Z1.out; have := Z2.out; have := Z3.out; have := GBW.out; have := Z5.out; have := GX.out; have := Z7.out; have := GBG.out; have := Z9.out; have := Z10.out; have := Z11.out; (try simp only [World.size_alloc] at *); omega))
    clear K_9
    have OW_8 := Lib.hid (OwnI.far OW_7.out hg11 (fun q hq e => by have := LOx.out _ e; have := LOW.out _ hq; have := Z1.out; have := Z2.out; have := Z3.out; have := GBW.out; have := Z5.out; have := GX.out; have := Z7.out; have := GBG.out; have := Z9.out; have := Z10.out; have := Z11.out; (try simp only [World.size_alloc] at *); omega))
    clear OW_7
    have BW_7 := Lib.hid (BW_6.out.farG hg11 (fun e => by have := LOx.out _ e; have := Z1.out; have := Z2.out; have := Z3.out; have := GBW.out; have := Z5.out; have := GX.out; have := Z7.out; have := GBG.out; have := Z9.out; have := Z10.out; have := Z11.out; (try simp only [World.size_alloc] at *); omega))
    clear BW_6
    have X_5 := Lib.hid (X_4.out.farG hg11 (fun e => by have := LOx.out _ e; have := Z1.out; have := Z2.out; have := Z3.out; have := GBW.out; have := Z5.out; have := GX.out; have := Z7.out; have := GBG.out; have := Z9.out; have := Z10.out; have := Z11.out; (try simp only [World.size_alloc] at *); omega))
    clear X_4
    have OG_4 := Lib.hid (OwnI.far OG_3.out hg11 (fun q hq e => by have := LOx.out _ e; have := LOG.out _ hq; have := Z1.out; have := Z2.out; have := Z3.out; have := GBW.out; have := Z5.out; have := GX.out; have := Z7.out; have := GBG.out; have := Z9.out; have := Z10.out; have := Z11.out; (try simp only [World.size_alloc] at *); omega))
    clear OG_3
    have BG_3 := Lib.hid (BG_2.out.farG hg11 (fun e => by have := LOx.out _ e; have := Z1.out; have := Z2.out; have := Z3.out; have := GBW.out; have := Z5.out; have := GX.out; have := Z7.out; have := GBG.out; have := Z9.out; have := Z10.out; have := Z11.out; (try simp only [World.size_alloc] at *); omega))
    clear BG_2
    have Ox_6 := Lib.hid hO
    clear Ox_5 hO
    have A11_ := Lib.hid (A10_.out.grown hg11 A10_.out.size (fun q hq => by have := LOx.out q hq; have := Z1.out; have := Z2.out; have := Z3.out; have := GBW.out; have := Z5.out; have := GX.out; have := Z7.out; have := GBG.out; have := Z9.out; have := Z10.out; have := Z11.out; (try simp only [World.size_alloc] at *); omega))
    clear A10_
    clear Ox_6
    clear X_5
    have hm1 : ¬ (((1 : Int) + (ss.length : Int)) < 0) := by omega
    obtain ⟨c0K, c1K, -⟩ := K_10.out.two
    obtain ⟨c0BW, c1BW, -⟩ := BW_7.out.two
    obtain ⟨c0BG, c1BG, -⟩ := BG_3.out.two
    go_wp2_with fail
    refine (eqBars_same _ _ _ _ _ F1 F2 _ hFl OG_4.out OW_8.out).mono ?_
    rintro e w12 ⟨rfl, hb12⟩
    clear c0K c1K c0BW c1BW c0BG c1BG
    have Z12 := Lib.hid (show w11.heap.size ≤ w12.heap.size from hb12.size)
    have K_11 := Lib.hid (K_10.out.keep hb12)
    clear K_10
    have OW_9 := Lib.hid (OwnI.keep OW_8.out hb12)
    clear OW_8
    have BW_8 := Lib.hid (BW_7.out.keep hb12)
    clear BW_7
    have OG_5 := Lib.hid (OwnI.keep OG_4.out hb12)
    clear OG_4
    have BG_4 := Lib.hid (BG_3.out.keep hb12)
    clear BG_3
    have A12_ := Lib.hid (A11_.out.trans (hb12.mono A11_.out.size))
    clear A11_
    obtain ⟨c0K, c1K, -⟩ := K_11.out.two
    obtain ⟨c0BW, c1BW, -⟩ := BW_8.out.two
    obtain ⟨c0BG, c1BG, -⟩ := BG_4.out.two
    go_wp2_with fail
    refine (markBars_any _ _ _ F1 F2 _ 1 (by omega) (by omega) _ hFl OG_5.out).mono ?_
    rintro e w13 ⟨rfl, hO, hg13⟩
    clear c0K c1K c0BW c1BW c0BG c1BG
    have Z13 := Lib.hid (show w12.heap.size ≤ w13.heap.size from hg13.size)
    have K_12 := Lib.hid (K_11.out.farG hg13 (fun e => by have := LOG.out _ e; have := Z1.out; have := Z2.out; have := Z3.out; have := GBW.out; have := Z5.out; have := GX.out; have := Z7.out; have := GBG.out; have := Z9.out; have := Z10.out; have := Z11.out; have := Z12.out; have := Z13.out; (try simp only [World.size_alloc] at *); omega))
    clear K_11
    have OW_10 := Lib.hid (OwnI.far OW_9.out hg13 (fun q hq e => by have := LOG.out _ e; have := LOW.out _ hq; have := Z1.out; have := Z2.out; have := Z3.out; have := GBW.out; have := Z5.out; have := GX.out; have := Z7.out; have := GBG.out; have := Z9.out; have := Z10.out; have := Z11.out; have := Z12.out; have := Z13.out; (try simp only [World.size_alloc] at *); omega))
    clear OW_9
    have BW_9 := Lib.hid (BW_8.out.farG hg13 (fun e => by have := LOG.out _ e; have := Z1.out; have := Z2.out; have := Z3.out; have := GBW.out; have := Z5.out; have := GX.out; have := Z7.out; have := GBG.out; have := Z9.out; have := Z10.out; have := Z11.out; have := Z12.out; have := Z13.out; (try simp only [World.size_alloc] at *); omega))
    clear BW_8
    have BG_5 := Lib.hid (BG_4.out.farG hg13 (fun e => by have := LOG.out _ e; have := Z1.out; have := Z2.out; have := Z3.out; have := GBW.out; have := Z5.out; have := GX.out; have := Z7.out; have := GBG.out; have := Z9.out; have := Z10.out; have := Z11.out; have := Z12.out; have := Z13.out; (try simp only [World.size_alloc] at *); omega))
    clear BG_4
    have OG_6 := Lib.hid hO
    clear OG_5 hO
    have A13_ := Lib.hid (A12_.out.grown hg13 A12_.out.size (fun q hq => by have := LOG.out q hq; have := Z1.out; have := Z2.out; have := Z3.out; have := GBW.out; have := Z5.out; have := GX.out; have := Z7.out; have := GBG.out; have := Z9.out; have := Z10.out; have := Z11.out; have := Z12.out; have := Z13.out; (try simp only [World.size_alloc] at *); omega))
    clear A12_
    have hm2 : ¬ ((1 : Int) + (F1.length : Int) < 0) := by omega
    obtain ⟨c0K, c1K, -⟩ := K_12.out.two
    obtain ⟨c0BW, c1BW, -⟩ := BW_9.out.two
    obtain ⟨c0BG, c1BG, -⟩ := BG_5.out.two
    go_wp2_with fail
    refine (heldBars_any _ _ _ F1.length F2 _ 1 (by omega) (by omega) _ hFl OG_6.out).mono ?_
    rintro e w14 ⟨rfl, hb14⟩
    clear c0K c1K c0BW c1BW c0BG c1BG
    have Z14 := Lib.hid (show w13.heap.size ≤ w14.heap.size from hb14.size)
    have K_13 := Lib.hid (K_12.out.keep hb14)
    clear K_12
    have OW_11 := Lib.hid (OwnI.keep OW_10.out hb14)
    clear OW_10
    have BW_10 := Lib.hid (BW_9.out.keep hb14)
    clear BW_9
    have OG_7 := Lib.hid (OwnI.keep OG_6.out hb14)
    clear OG_6
    have BG_6 := Lib.hid (BG_5.out.keep hb14)
    clear BG_5
    have A14_ := Lib.hid (A13_.out.trans (hb14.mono A13_.out.size))
    clear A13_
    obtain ⟨c0K, c1K, -⟩ := K_13.out.two
    obtain ⟨c0BW, c1BW, -⟩ := BW_10.out.two
    obtain ⟨c0BG, c1BG, -⟩ := BG_6.out.two
    go_wp2_with fail
    refine (toBars_any A n c ss cp _ h0 (HR.out.below A14_.out)).mono ?_
    rintro e w15 ⟨gz, rfl, hO, hb15⟩
    clear c0K c1K c0BW c1BW c0BG c1BG
    have Z15 := Lib.hid (show w14.heap.size ≤ w15.heap.size from hb15.size)
    have K_14 := Lib.hid (K_13.out.keep hb15)
    clear K_13
    have OW_12 := Lib.hid (OwnI.keep OW_11.out hb15)
    clear OW_11
    have BW_11 := Lib.hid (BW_10.out.keep hb15)
    clear BW_10
    have OG_8 := Lib.hid (OwnI.keep OG_7.out hb15)
    clear OG_7
    have BG_7 := Lib.hid (BG_6.out.keep hb15)
    clear BG_6
    have A15_ := Lib.hid (A14_.out.trans (hb15.mono A14_.out.size))
    clear A14_
    have Oz_0 := Lib.hid hO
    have LOz := Lib.hid (fun q hq => OwnI.lt Oz_0.out q hq)
    clear hO
    obtain ⟨c0K, c1K, -⟩ := K_14.out.two
    obtain ⟨c0BW, c1BW, -⟩ := BW_11.out.two
    obtain ⟨c0BG, c1BG, -⟩ := BG_7.out.two
    go_wp2_with fail
    refine (barsDo_any _ n n ss cp x1 _ h0 (OwnI.rowZ Oz_0.out)).mono ?_
    rintro e w16 ⟨vH, rfl, hO, hb16⟩
    clear c0K c1K c0BW c1BW c0BG c1BG
    have Z16 := Lib.hid (show w15.heap.size ≤ w16.heap.size from hb16.size)
    have K_15 := Lib.hid (K_14.out.keep hb16)
    clear K_14
    have OW_13 := Lib.hid (OwnI.keep OW_12.out hb16)
    clear OW_12
    have BW_12 := Lib.hid (BW_11.out.keep hb16)
    clear BW_11
    have OG_9 := Lib.hid (OwnI.keep OG_8.out hb16)
    clear OG_8
    have BG_8 := Lib.hid (BG_7.out.keep hb16)
    clear BG_7
    have Oz_1 := Lib.hid (OwnI.keep Oz_0.out hb16)
    clear Oz_0
    have A16_ := Lib.hid (A15_.out.trans (hb16.mono A15_.out.size))
    clear A15_
    rw [← HFE.out] at hO
    rw [← HFE.out, ← HT.out]
    dsimp only [vR] at hO ⊢
    obtain ⟨VH, uH, rfl⟩ := OwnI.shape hO
    have OH_0 := Lib.hid hO
    have LOH := Lib.hid (fun q hq => OwnI.lt OH_0.out q hq)
    clear hO
    have K_16 := Lib.hid (K_15.out.alloc (.cells #[.slice VH F1.length uH, .bool F2] 27))
    clear K_15
    have OW_14 := Lib.hid (OwnI.alloc OW_13.out (.cells #[.slice VH F1.length uH, .bool F2] 27))
    clear OW_13
    have BW_13 := Lib.hid (BW_12.out.alloc (.cells #[.slice VH F1.length uH, .bool F2] 27))
    clear BW_12
    have OG_10 := Lib.hid (OwnI.alloc OG_9.out (.cells #[.slice VH F1.length uH, .bool F2] 27))
    clear OG_9
    have BG_9 := Lib.hid (BG_8.out.alloc (.cells #[.slice VH F1.length uH, .bool F2] 27))
    clear BG_8
    have Oz_2 := Lib.hid (OwnI.alloc Oz_1.out (.cells #[.slice VH F1.length uH, .bool F2] 27))
    clear Oz_1
    have OH_1 := Lib.hid (OwnI.alloc OH_0.out (.cells #[.slice VH F1.length uH, .bool F2] 27))
    clear OH_0
    have BH_0 := Lib.hid (IsBlk.new w16 27 #[.slice VH F1.length uH, .bool F2])
    have A17_ := Lib.hid (A16_.out.alloc A16_.out.size (.cells #[.slice VH F1.length uH, .bool F2] 27))
    clear A16_
    have GBH := Lib.hid (show w16.heap.size < (w16.alloc (.cells #[.slice VH F1.length uH, .bool F2] 27)).heap.size by simp)
    clear Oz_2
    obtain ⟨c0K, c1K, -⟩ := K_16.out.two
    obtain ⟨c0BW, c1BW, -⟩ := BW_13.out.two
    obtain ⟨c0BG, c1BG, -⟩ := BG_9.out.two
    obtain ⟨c0BH, c1BH, -⟩ := BH_0.out.two
    go_wp2_with fail
    refine (eqBars_same _ _ _ _ _ F1 F2 _ hFl OH_1.out OW_14.out).mono ?_
    rintro e w18 ⟨rfl, hb18⟩
    clear c0K c1K c0BW c1BW c0BG c1BG c0BH c1BH
    have Z18 := Lib.hid (show (w16.alloc (.cells #[.slice VH F1.length uH, .bool F2] 27)).heap.size ≤ w18.heap.size from hb18.size)
    have K_17 := Lib.hid (K_16.out.keep hb18)
    clear K_16
    have OW_15 := Lib.hid (OwnI.keep OW_14.out hb18)
    clear OW_14
    have BW_14 := Lib.hid (BW_13.out.keep hb18)
    clear BW_13
    have OG_11 := Lib.hid (OwnI.keep OG_10.out hb18)
    clear OG_10
    have BG_10 := Lib.hid (BG_9.out.keep hb18)
    clear BG_9
    have OH_2 := Lib.hid (OwnI.keep OH_1.out hb18)
    clear OH_1
    have BH_1 := Lib.hid (BH_0.out.keep hb18)
    clear BH_0
    have A18_ := Lib.hid (A17_.out.trans (hb18.mono A17_.out.size))
    clear A17_
    obtain ⟨c0K, c1K, -⟩ := K_17.out.two
    obtain ⟨c0BW, c1BW, -⟩ := BW_14.out.two
    obtain ⟨c0BG, c1BG, -⟩ := BG_10.out.two
    obtain ⟨c0BH, c1BH, -⟩ := BH_1.out.two
    go_wp2_with fail
    refine (heldBars_any _ _ _ F1.length F2 _ 1 (by omega) (by omega) _ hFl OG_11.out).mono ?_
    rintro e w19 ⟨rfl, hb19⟩
    clear c0K c1K c0BW c1BW c0BG c1BG c0BH c1BH
    have Z19 := Lib.hid (show w18.heap.size ≤ w19.heap.size from hb19.size)
    have K_18 := Lib.hid (K_17.out.keep hb19)
    clear K_17
    have OW_16 := Lib.hid (OwnI.keep OW_15.out hb19)
    clear OW_15
    have BW_15 := Lib.hid (BW_14.out.keep hb19)
    clear BW_14
    have OG_12 := Lib.hid (OwnI.keep OG_11.out hb19)
    clear OG_11
    have BG_11 := Lib.hid (BG_10.out.keep hb19)
    clear BG_10
    have OH_3 := Lib.hid (OwnI.keep OH_2.out hb19)
    clear OH_2
    have BH_2 := Lib.hid (BH_1.out.keep hb19)
    clear BH_1
    have A19_ := Lib.hid (A18_.out.trans (hb19.mono A18_.out.size))
    clear A18_
    obtain ⟨c0K, c1K, -⟩ := K_18.out.two
    obtain ⟨c0BW, c1BW, -⟩ := BW_15.out.two
    obtain ⟨c0BG, c1BG, -⟩ := BG_11.out.two
    obtain ⟨c0BH, c1BH, -⟩ := BH_2.out.two
    go_wp2
    go_ret
    exact ⟨rfl, A19_.out⟩
end Go.Proofs.Ytpcefbebknjkiaa
