/- The exact law of BarsValid: the walk (written by program). -/
import Derived.Test.YtpcefbebknjkiaaBr2
import Derived.Test.YtpcefbebknjkiaaBrE
import Derived.Deep.DeepCutAuto
namespace Go.Proofs.Ytpcefbebknjkiaa
open Go.ChangeShapes Go.WideShapes Go.ChangeAt Go.RowKit

set_option maxRecDepth 100000 in
set_option maxHeartbeats 8000000 in
theorem exactBarsValid_walk (w : World) (A : Option Addr) (n c : Nat) (ss : List Int) (cp : Bool) (hn : n ≤ 9223372036854775807) (hr : RowZ w A n ss) :
    Calls Try.prog 3 #[.agg #[.slice A n c, .bool cp]] w fun e w' => e = .returned (.bool true) ∧ Below w.heap.size w w' := by
  have HR := Lib.hid hr
  have HL := Lib.hid hr.len
  clear hr
  have b0 := below_bx w (.cells #[.slice A n c, .bool cp] 24)
  have K0 := Lib.hid (IsBlk.new w 24 #[.slice A n c, .bool cp])
  obtain ⟨k0, k1, -⟩ := K0.out.two
  by_cases h0 : n ≤ 1048576
  rotate_left
  · go_enter Try.func3, Try.ntmps3
    go_wp2_with fail
    refine (szBars_any A n c cp hn _).mono ?_
    rintro e w1 ⟨rfl, hb1⟩
    rw [if_neg h0]
    go_wp2
    go_ret
    exact ⟨rfl, b0.trans (hb1.mono b0.size)⟩
  obtain ⟨F, hF⟩ : ∃ F, F = brsOk (ss, cp) := ⟨_, rfl⟩
  have HFE := Lib.hid hF
  clear hF
  go_enter Try.func3, Try.ntmps3
  go_wp2_with fail
  refine (szBars_any A n c cp hn _).mono ?_
  rintro e w1 ⟨rfl, hb1⟩
  rw [if_pos h0]
  have hpos : ¬ ((1048576 : Int) - (n : Int) < 0) := by omega
  have A1 := Lib.hid (show Below w.heap.size w w1 from b0.trans (hb1.mono b0.size))
  have K_0 := Lib.hid (K0.out.keep hb1)
  clear k0 k1 hb1 b0 K0
  have Z1 := Lib.hid (K_0.out.lt)
  obtain ⟨c0K, c1K, -⟩ := K_0.out.two
  go_wp2_with fail
  refine (toBars_any A n c ss cp _ h0 (HR.out.below A1.out)).mono ?_
  rintro e w2 ⟨gs, rfl, hO, hb2⟩
  clear c0K c1K
  have Z2 := Lib.hid (show w1.heap.size ≤ w2.heap.size from hb2.size)
  have K_1 := Lib.hid (K_0.out.keep hb2)
  clear K_0
  have A2_ := Lib.hid (A1.out.trans (hb2.mono A1.out.size))
  clear A1
  have Os_0 := Lib.hid hO
  have LOs := Lib.hid (fun q hq => OwnI.lt Os_0.out q hq)
  clear hO
  obtain ⟨c0K, c1K, -⟩ := K_1.out.two
  go_wp2_with fail
  refine (specBarsValid_any _ n n ss cp _ h0 (OwnI.rowZ Os_0.out)).mono ?_
  rintro e w3 ⟨rfl, hb3⟩
  clear c0K c1K
  have Z3 := Lib.hid (show w2.heap.size ≤ w3.heap.size from hb3.size)
  have K_2 := Lib.hid (K_1.out.keep hb3)
  clear K_1
  have Os_1 := Lib.hid (OwnI.keep Os_0.out hb3)
  clear Os_0
  have A3_ := Lib.hid (A2_.out.trans (hb3.mono A2_.out.size))
  clear A2_
  clear Os_1
  obtain ⟨c0K, c1K, -⟩ := K_2.out.two
  go_wp2_with fail
  refine (toBars_any A n c ss cp _ h0 (HR.out.below A3_.out)).mono ?_
  rintro e w4 ⟨gx, rfl, hO, hb4⟩
  clear c0K c1K
  have Z4 := Lib.hid (show w3.heap.size ≤ w4.heap.size from hb4.size)
  have K_3 := Lib.hid (K_2.out.keep hb4)
  clear K_2
  have A4_ := Lib.hid (A3_.out.trans (hb4.mono A3_.out.size))
  clear A3_
  have Ox_0 := Lib.hid hO
  have LOx := Lib.hid (fun q hq => OwnI.lt Ox_0.out q hq)
  clear hO
  have K_4 := Lib.hid (K_3.out.alloc (.cells #[.slice (some ⟨gx, 0, none⟩) n n, .bool cp] 27))
  clear K_3
  have Ox_1 := Lib.hid (OwnI.alloc Ox_0.out (.cells #[.slice (some ⟨gx, 0, none⟩) n n, .bool cp] 27))
  clear Ox_0
  have X_0 := Lib.hid (IsBlk.new w4 27 #[.slice (some ⟨gx, 0, none⟩) n n, .bool cp])
  have A5_ := Lib.hid (A4_.out.alloc A4_.out.size (.cells #[.slice (some ⟨gx, 0, none⟩) n n, .bool cp] 27))
  clear A4_
  have GX := Lib.hid (show w4.heap.size < (w4.alloc (.cells #[.slice (some ⟨gx, 0, none⟩) n n, .bool cp] 27)).heap.size by simp)
  obtain ⟨c0K, c1K, -⟩ := K_4.out.two
  obtain ⟨c0X, c1X, -⟩ := X_0.out.two
  go_wp2_with fail
  refine (barsValid_any _ n n ss cp _ h0 (OwnI.rowZ Ox_1.out)).mono ?_
  rintro e w6 ⟨rfl, hb6⟩
  clear c0K c1K c0X c1X
  have Z6 := Lib.hid (show (w4.alloc (.cells #[.slice (some ⟨gx, 0, none⟩) n n, .bool cp] 27)).heap.size ≤ w6.heap.size from hb6.size)
  have K_5 := Lib.hid (K_4.out.keep hb6)
  clear K_4
  have Ox_2 := Lib.hid (OwnI.keep Ox_1.out hb6)
  clear Ox_1
  have X_1 := Lib.hid (X_0.out.keep hb6)
  clear X_0
  have A6_ := Lib.hid (A5_.out.trans (hb6.mono A5_.out.size))
  clear A5_
  obtain ⟨c0K, c1K, -⟩ := K_5.out.two
  obtain ⟨c0X, c1X, -⟩ := X_1.out.two
  go_upto_region 10 with fail
  have RD := Lib.hid (show RowZ w6.drew A n ss from HR.out.below A6_.out.drew)
  have XD := Lib.hid (show IsBlk w6.drew _ 27 #[.slice (some ⟨gx, 0, none⟩) n n, .bool cp] from X_1.out)
  have OD := Lib.hid (show OwnI 3 w6.drew _ (.slice (some ⟨gx, 0, none⟩) n n) ss from Ox_2.out)
  have hls : ss.length ≤ 1048576 := by rw [HL.out]; exact h0
  go_cut [26] (fun s wx => s = .bool false ∧ Below w6.heap.size w6 wx)
  case first =>
    go_region_with (first
      | (go_at_call 10; refine (toBars_any A n c ss cp _ h0 RD.out).mono ?_; rintro e wy ⟨gy, rfl, hOy, hby⟩; obtain ⟨r0, r1, -⟩ := (XD.out.keep hby).two; have OD2 := Lib.hid (OwnI.keep OD.out hby); have OY := Lib.hid hOy; clear hOy)
      | (go_at_call 12; refine (eqBars_same _ _ _ _ _ ss cp _ hls OD2.out OY.out).mono ?_; rintro e wz ⟨rfl, hbz⟩))
    all_goals (go_wp2_with fail; go_meet; exact ⟨rfl, (((Below.refl w6.heap.size w6).drew).trans hby).trans (hbz.mono hby.size)⟩)
  case rest =>
    obtain ⟨rfl, hb7⟩ := hcut
    rename World => w7
    clear c0K c1K c0X c1X
    clear RD XD OD
    have Z7 := Lib.hid (show w6.heap.size ≤ w7.heap.size from hb7.size)
    have K_6 := Lib.hid (K_5.out.keep hb7)
    clear K_5
    have Ox_3 := Lib.hid (OwnI.keep Ox_2.out hb7)
    clear Ox_2
    have X_2 := Lib.hid (X_1.out.keep hb7)
    clear X_1
    have A7_ := Lib.hid (A6_.out.trans (hb7.mono A6_.out.size))
    clear A6_
    obtain ⟨c0K, c1K, -⟩ := K_6.out.two
    obtain ⟨c0X, c1X, -⟩ := X_2.out.two
    go_wp2
    go_ret
    exact ⟨rfl, A7_.out⟩
end Go.Proofs.Ytpcefbebknjkiaa
