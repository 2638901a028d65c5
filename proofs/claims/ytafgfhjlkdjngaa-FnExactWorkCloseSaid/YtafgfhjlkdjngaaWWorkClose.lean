/- The exact law of WorkClose: the walk (written by program). -/
import Derived.Test.YtafgfhjlkdjngaaWk2
import Derived.Test.YtafgfhjlkdjngaaWkA
import Derived.Deep.DeepCutAuto
import Derived.Deep.RegionWith
import Derived.RegionTactic
namespace Go.Proofs.Ytafgfhjlkdjngaa
open Go.ChangeShapes Go.WideShapes Go.ChangeAt Go.RowKit

set_option maxRecDepth 100000 in
set_option maxHeartbeats 8000000 in
theorem exactWorkClose_walk (w : World) (A : Option Addr) (n c : Nat) (B : Option Addr) (m d : Nat) (C : Option Addr) (q r : Nat) (a e : List Bool) (ps : List TJ) (hn : n ≤ 9223372036854775807) (hm : m ≤ 9223372036854775807) (hq : q ≤ 9223372036854775807) (hr : RowW w A n B m C q a e ps) :
    Calls Try.prog 6 #[.agg #[.slice A n c, .slice B m d, .slice C q r]] w fun e' w' => e' = .returned (.bool true) ∧ Below w.heap.size w w' := by
  have HR := Lib.hid hr
  have HA := Lib.hid hr.on.len
  have HE := Lib.hid hr.ea.len
  have HP := Lib.hid hr.pe.len
  clear hr
  have b0 := below_bx w (.cells #[.slice A n c, .slice B m d, .slice C q r] 39)
  have K0 := Lib.hid (IsBlk.new w 39 #[.slice A n c, .slice B m d, .slice C q r])
  obtain ⟨k0, k1, k2, -⟩ := K0.out.three
  by_cases h0 : n + m + q ≤ 1048576
  rotate_left
  · have hsz : szW n m q = -1 := by rw [szW, if_neg h0]
    go_enter Try.func6, Try.ntmps6
    go_wp2_with fail
    refine (szWork_any A n c B m d C q r hn hm hq _).mono ?_
    rintro e1 w1 ⟨rfl, hb1⟩
    rw [hsz]
    go_wp2
    go_ret
    exact ⟨rfl, b0.trans (hb1.mono b0.size)⟩
  have hn' : n ≤ 1048576 := by omega
  have hm' : m ≤ 1048576 := by omega
  have hq' : q ≤ 1048576 := by omega
  have HSZ := Lib.hid (show szW n m q = 1048576 - (n : Int) - (m : Int) - (q : Int) by rw [szW, if_pos h0])
  have hpos : ¬ ((1048576 : Int) - (n : Int) - (m : Int) - (q : Int) < 0) := by omega
  obtain ⟨F, hF⟩ : ∃ F, F = closeF (a, e, ps) := ⟨_, rfl⟩
  have hFl : F.length ≤ 1048576 := by rw [hF]; exact (by have := closeF_len (a, e, ps); omega)
  have HFE := Lib.hid hF
  clear hF
  go_enter Try.func6, Try.ntmps6
  go_wp2_with fail
  refine (szWork_any A n c B m d C q r hn hm hq _).mono ?_
  rintro e1 w1 ⟨rfl, hb1⟩
  rw [HSZ.out]
  have A1 := Lib.hid (show Below w.heap.size w w1 from b0.trans (hb1.mono b0.size))
  have K_0 := Lib.hid (K0.out.keep hb1)
  clear k0 k1 k2 hb1 b0 K0
  have ZK := Lib.hid K_0.out.lt
  obtain ⟨c0K, c1K, c2K, -⟩ := K_0.out.three
  go_wp2_with fail
  refine (toWork_any A n c B m d C q r a e ps _ hn' hm' hq' (HR.out.below A1.out)).mono ?_
  rintro e1 w2 ⟨gas, gbs, gcs, rfl, hO, hb2⟩
  clear c0K c1K c2K
  have Z2 := Lib.hid (show w1.heap.size ≤ w2.heap.size from hb2.size)
  have K_1 := Lib.hid (IsBlk.keep K_0.out hb2)
  clear K_0
  have A2_ := Lib.hid (A1.out.trans (hb2.mono A1.out.size))
  clear A1
  have Os_0 := Lib.hid hO
  have LOs := Lib.hid (fun q hq => OwnW.lt Os_0.out q hq)
  clear hO
  obtain ⟨c0K, c1K, c2K, -⟩ := K_1.out.three
  go_wp2_with fail
  refine (specWorkClose_any _ n n _ m m _ q q a e ps _ hn' hm' hq' (Nat.le_refl _) (OwnW.row Os_0.out)).mono ?_
  rintro e1 w3 ⟨vW, rfl, hO, hb3⟩
  clear c0K c1K c2K
  have Z3 := Lib.hid (show w2.heap.size ≤ w3.heap.size from hb3.size)
  have K_2 := Lib.hid (IsBlk.keep K_1.out hb3)
  clear K_1
  have Os_1 := Lib.hid (OwnW.keep Os_0.out hb3)
  clear Os_0
  have A3_ := Lib.hid (A2_.out.trans (hb3.mono A2_.out.size))
  clear A2_
  rw [← HFE.out] at hO
  obtain ⟨VW, uW, rfl⟩ := OwnH.shape hO
  have OW_0 := Lib.hid hO
  have LOW := Lib.hid (fun q hq => OwnH.lt OW_0.out q hq)
  clear hO
  clear Os_1
  obtain ⟨c0K, c1K, c2K, -⟩ := K_2.out.three
  go_wp2_with fail
  refine (toWork_any A n c B m d C q r a e ps _ hn' hm' hq' (HR.out.below A3_.out)).mono ?_
  rintro e1 w4 ⟨gax, gbx, gcx, rfl, hO, hb4⟩
  clear c0K c1K c2K
  have Z4 := Lib.hid (show w3.heap.size ≤ w4.heap.size from hb4.size)
  have K_3 := Lib.hid (IsBlk.keep K_2.out hb4)
  clear K_2
  have OW_1 := Lib.hid (OwnH.keep OW_0.out hb4)
  clear OW_0
  have A4_ := Lib.hid (A3_.out.trans (hb4.mono A3_.out.size))
  clear A3_
  have Ox_0 := Lib.hid hO
  have LOx := Lib.hid (fun q hq => OwnW.lt Ox_0.out q hq)
  clear hO
  have K_4 := Lib.hid (IsBlk.alloc K_3.out (.cells #[.slice (some ⟨gax, 0, none⟩) n n, .slice (some ⟨gbx, 0, none⟩) m m, .slice (some ⟨gcx, 0, none⟩) q q] 44))
  clear K_3
  have OW_2 := Lib.hid (OwnH.alloc OW_1.out (.cells #[.slice (some ⟨gax, 0, none⟩) n n, .slice (some ⟨gbx, 0, none⟩) m m, .slice (some ⟨gcx, 0, none⟩) q q] 44))
  clear OW_1
  have Ox_1 := Lib.hid (OwnW.alloc Ox_0.out (.cells #[.slice (some ⟨gax, 0, none⟩) n n, .slice (some ⟨gbx, 0, none⟩) m m, .slice (some ⟨gcx, 0, none⟩) q q] 44))
  clear Ox_0
  have X_0 := Lib.hid (IsBlk.new w4 44 #[.slice (some ⟨gax, 0, none⟩) n n, .slice (some ⟨gbx, 0, none⟩) m m, .slice (some ⟨gcx, 0, none⟩) q q])
  have A5_ := Lib.hid (A4_.out.alloc A4_.out.size (.cells #[.slice (some ⟨gax, 0, none⟩) n n, .slice (some ⟨gbx, 0, none⟩) m m, .slice (some ⟨gcx, 0, none⟩) q q] 44))
  clear A4_
  have GX := Lib.hid (show w4.heap.size < (w4.alloc (.cells #[.slice (some ⟨gax, 0, none⟩) n n, .slice (some ⟨gbx, 0, none⟩) m m, .slice (some ⟨gcx, 0, none⟩) q q] 44)).heap.size by simp)
  obtain ⟨c0K, c1K, c2K, -⟩ := K_4.out.three
  obtain ⟨c0X, c1X, c2X, -⟩ := X_0.out.three
  go_wp2_with fail
  refine (workClose_any _ n n _ m m _ q q a e ps _ hn' hm' hq' (Nat.le_refl _) (OwnW.row Ox_1.out)).mono ?_
  rintro e1 w6 ⟨vG, rfl, hO, hb6⟩
  clear c0K c1K c2K c0X c1X c2X
  have Z6 := Lib.hid (show (w4.alloc (.cells #[.slice (some ⟨gax, 0, none⟩) n n, .slice (some ⟨gbx, 0, none⟩) m m, .slice (some ⟨gcx, 0, none⟩) q q] 44)).heap.size ≤ w6.heap.size from hb6.size)
  have K_5 := Lib.hid (IsBlk.keep K_4.out hb6)
  clear K_4
  have OW_3 := Lib.hid (OwnH.keep OW_2.out hb6)
  clear OW_2
  have Ox_2 := Lib.hid (OwnW.keep Ox_1.out hb6)
  clear Ox_1
  have X_1 := Lib.hid (IsBlk.keep X_0.out hb6)
  clear X_0
  have A6_ := Lib.hid (A5_.out.trans (hb6.mono A5_.out.size))
  clear A5_
  rw [← HFE.out] at hO
  obtain ⟨VG, uG, rfl⟩ := OwnH.shape hO
  have OG_0 := Lib.hid hO
  have LOG := Lib.hid (fun q hq => OwnH.lt OG_0.out q hq)
  clear hO
  obtain ⟨c0K, c1K, c2K, -⟩ := K_5.out.three
  obtain ⟨c0X, c1X, c2X, -⟩ := X_1.out.three
  go_wp2_with fail
  refine (eqWorkDeedS_own hFl OG_0.out OW_3.out).mono ?_
  rintro e1 w7 ⟨rfl, hb7⟩
  clear c0K c1K c2K c0X c1X c2X
  have Z7 := Lib.hid (show w6.heap.size ≤ w7.heap.size from hb7.size)
  have K_6 := Lib.hid (IsBlk.keep K_5.out hb7)
  clear K_5
  have OW_4 := Lib.hid (OwnH.keep OW_3.out hb7)
  clear OW_3
  have Ox_3 := Lib.hid (OwnW.keep Ox_2.out hb7)
  clear Ox_2
  have X_2 := Lib.hid (IsBlk.keep X_1.out hb7)
  clear X_1
  have OG_1 := Lib.hid (OwnH.keep OG_0.out hb7)
  clear OG_0
  have A7_ := Lib.hid (A6_.out.trans (hb7.mono A6_.out.size))
  clear A6_
  obtain ⟨c0K, c1K, c2K, -⟩ := K_6.out.three
  obtain ⟨c0X, c1X, c2X, -⟩ := X_2.out.three
  go_upto_region 10 with fail
  have RD := Lib.hid (show RowW w7.drew A n B m C q a e ps from HR.out.below A7_.out.drew)
  have XD := Lib.hid (show IsBlk w7.drew _ 44 #[.slice (some ⟨gax, 0, none⟩) n n, .slice (some ⟨gbx, 0, none⟩) m m, .slice (some ⟨gcx, 0, none⟩) q q] from X_2.out)
  have OD := Lib.hid (OwnW.drew Ox_3.out)
  have hla : a.length ≤ 1048576 := by rw [HA.out]; exact hn'
  have hle : e.length ≤ 1048576 := by rw [HE.out]; exact hm'
  have hlp : ps.length ≤ 1048576 := by rw [HP.out]; exact hq'
  go_cut [31] (fun s wx => s = .bool false ∧ Below w7.heap.size w7 wx)
  case first =>
    go_region_with (first
      | (go_at_call 19; refine (toWork_any A n c B m d C q r a e ps _ hn' hm' hq' RD.out).mono ?_; rintro e1 wy ⟨gy1, gy2, gy3, rfl, hOy, hby⟩; obtain ⟨r0, r1, r2, -⟩ := (XD.out.keep hby).three; have OD2 := Lib.hid (OwnW.keep OD.out hby); have OY := Lib.hid hOy; clear hOy)
      | (go_at_call 21; refine (eqWork_own hla hle hlp OD2.out OY.out).mono ?_; rintro e1 wz ⟨rfl, hbz⟩))
    all_goals (go_wp2_with fail; go_meet; exact ⟨rfl, (((Below.refl w7.heap.size w7).drew).trans hby).trans (hbz.mono hby.size)⟩)
  case rest =>
    obtain ⟨rfl, hb8⟩ := hcut
    rename World => w8
    clear c0K c1K c2K c0X c1X c2X
    clear RD XD OD
    have Z8 := Lib.hid (show w7.heap.size ≤ w8.heap.size from hb8.size)
    have K_7 := Lib.hid (IsBlk.keep K_6.out hb8)
    clear K_6
    have OW_5 := Lib.hid (OwnH.keep OW_4.out hb8)
    clear OW_4
    have Ox_4 := Lib.hid (OwnW.keep Ox_3.out hb8)
    clear Ox_3
    have X_3 := Lib.hid (IsBlk.keep X_2.out hb8)
    clear X_2
    have OG_2 := Lib.hid (OwnH.keep OG_1.out hb8)
    clear OG_1
    have A8_ := Lib.hid (A7_.out.trans (hb8.mono A7_.out.size))
    clear A7_
    obtain ⟨c0K, c1K, c2K, -⟩ := K_7.out.three
    obtain ⟨c0X, c1X, c2X, -⟩ := X_3.out.three
    go_wp2_with fail
    refine (markWork_any _ hla hle hlp Ox_4.out).mono ?_
    rintro e1 w9 ⟨rfl, hO, hg9⟩
    clear c0K c1K c2K c0X c1X c2X
    have Z9 := Lib.hid (show w8.heap.size ≤ w9.heap.size from hg9.size)
    have K_8 := Lib.hid (IsBlk.farIn K_7.out hg9 (fun e1 => by have := LOx.out _ e1; have := ZK.out; have := Z2.out; have := Z3.out; have := Z4.out; have := GX.out; have := Z6.out; have := Z7.out; have := Z8.out; have := Z9.out; (try simp only [World.size_alloc] at *); omega))
    clear K_7
    have OW_6 := Lib.hid (OwnH.farIn OW_5.out hg9 (fun q hq e1 => by have := LOx.out _ e1; have := LOW.out _ hq; have := ZK.out; have := Z2.out; have := Z3.out; have := Z4.out; have := GX.out; have := Z6.out; have := Z7.out; have := Z8.out; have := Z9.out; (try simp only [World.size_alloc] at *); omega))
    clear OW_5
    have X_4 := Lib.hid (IsBlk.farIn X_3.out hg9 (fun e1 => by have := LOx.out _ e1; have := ZK.out; have := Z2.out; have := Z3.out; have := Z4.out; have := GX.out; have := Z6.out; have := Z7.out; have := Z8.out; have := Z9.out; (try simp only [World.size_alloc] at *); omega))
    clear X_3
    have OG_3 := Lib.hid (OwnH.farIn OG_2.out hg9 (fun q hq e1 => by have := LOx.out _ e1; have := LOG.out _ hq; have := ZK.out; have := Z2.out; have := Z3.out; have := Z4.out; have := GX.out; have := Z6.out; have := Z7.out; have := Z8.out; have := Z9.out; (try simp only [World.size_alloc] at *); omega))
    clear OG_2
    have Ox_5 := Lib.hid hO
    clear Ox_4 hO
    have A9_ := Lib.hid (hg9.below A8_.out A8_.out.size (fun q hq => by have := LOx.out q hq; have := ZK.out; have := Z2.out; have := Z3.out; have := Z4.out; have := GX.out; have := Z6.out; have := Z7.out; have := Z8.out; have := Z9.out; (try simp only [World.size_alloc] at *); omega))
    clear A8_
    clear Ox_5
    clear X_4
    have hm1 : ¬ (((1 : Int) + (a.length : Int) + (e.length : Int) + 2 * (ps.length : Int)) < 0) := by omega
    obtain ⟨c0K, c1K, c2K, -⟩ := K_8.out.three
    go_wp2_with fail
    refine (eqWorkDeedS_own hFl OG_3.out OW_6.out).mono ?_
    rintro e1 w10 ⟨rfl, hb10⟩
    clear c0K c1K c2K
    have Z10 := Lib.hid (show w9.heap.size ≤ w10.heap.size from hb10.size)
    have K_9 := Lib.hid (IsBlk.keep K_8.out hb10)
    clear K_8
    have OW_7 := Lib.hid (OwnH.keep OW_6.out hb10)
    clear OW_6
    have OG_4 := Lib.hid (OwnH.keep OG_3.out hb10)
    clear OG_3
    have A10_ := Lib.hid (A9_.out.trans (hb10.mono A9_.out.size))
    clear A9_
    obtain ⟨c0K, c1K, c2K, -⟩ := K_9.out.three
    go_wp2_with fail
    refine (markWorkDeedS_own _ _ _ 1 (by omega) (by omega) _ hFl OG_4.out).mono ?_
    rintro e1 w11 ⟨rfl, hO, hg11⟩
    clear c0K c1K c2K
    have Z11 := Lib.hid (show w10.heap.size ≤ w11.heap.size from hg11.size)
    have K_10 := Lib.hid (IsBlk.farG K_9.out hg11 (fun e1 => by have := LOG.out _ e1; have := ZK.out; have := Z2.out; have := Z3.out; have := Z4.out; have := GX.out; have := Z6.out; have := Z7.out; have := Z8.out; have := Z9.out; have := Z10.out; have := Z11.out; (try simp only [World.size_alloc] at *); omega))
    clear K_9
    have OW_8 := Lib.hid (OwnH.far OW_7.out hg11 (fun q hq e1 => by have := LOG.out _ e1; have := LOW.out _ hq; have := ZK.out; have := Z2.out; have := Z3.out; have := Z4.out; have := GX.out; have := Z6.out; have := Z7.out; have := Z8.out; have := Z9.out; have := Z10.out; have := Z11.out; (try simp only [World.size_alloc] at *); omega))
    clear OW_7
    have OG_5 := Lib.hid hO
    clear OG_4 hO
    have A11_ := Lib.hid (A10_.out.grown hg11 A10_.out.size (fun q hq => by have := LOG.out q hq; have := ZK.out; have := Z2.out; have := Z3.out; have := Z4.out; have := GX.out; have := Z6.out; have := Z7.out; have := Z8.out; have := Z9.out; have := Z10.out; have := Z11.out; (try simp only [World.size_alloc] at *); omega))
    clear A10_
    have hm2 : ¬ ((1 : Int) + 3 * (F.length : Int) < 0) := by omega
    obtain ⟨c0K, c1K, c2K, -⟩ := K_10.out.three
    go_wp2_with fail
    refine (heldWorkDeedS_own _ _ _ 1 (by omega) (by omega) _ hFl OG_5.out).mono ?_
    rintro e1 w' ⟨rfl, rfl⟩
    clear c0K c1K c2K
    obtain ⟨c0K, c1K, c2K, -⟩ := K_10.out.three
    go_wp2_with fail
    refine (toWork_any A n c B m d C q r a e ps _ hn' hm' hq' (HR.out.below A11_.out)).mono ?_
    rintro e1 w12 ⟨gaz, gbz, gcz, rfl, hO, hb12⟩
    clear c0K c1K c2K
    have Z12 := Lib.hid (show w11.heap.size ≤ w12.heap.size from hb12.size)
    have K_11 := Lib.hid (IsBlk.keep K_10.out hb12)
    clear K_10
    have OW_9 := Lib.hid (OwnH.keep OW_8.out hb12)
    clear OW_8
    have OG_6 := Lib.hid (OwnH.keep OG_5.out hb12)
    clear OG_5
    have A12_ := Lib.hid (A11_.out.trans (hb12.mono A11_.out.size))
    clear A11_
    have Oz_0 := Lib.hid hO
    have LOz := Lib.hid (fun q hq => OwnW.lt Oz_0.out q hq)
    clear hO
    obtain ⟨c0K, c1K, c2K, -⟩ := K_11.out.three
    go_wp2_with fail
    refine (workClose_any _ n n _ m m _ q q a e ps _ hn' hm' hq' (Nat.le_refl _) (OwnW.row Oz_0.out)).mono ?_
    rintro e1 w13 ⟨vH, rfl, hO, hb13⟩
    clear c0K c1K c2K
    have Z13 := Lib.hid (show w12.heap.size ≤ w13.heap.size from hb13.size)
    have K_12 := Lib.hid (IsBlk.keep K_11.out hb13)
    clear K_11
    have OW_10 := Lib.hid (OwnH.keep OW_9.out hb13)
    clear OW_9
    have OG_7 := Lib.hid (OwnH.keep OG_6.out hb13)
    clear OG_6
    have Oz_1 := Lib.hid (OwnW.keep Oz_0.out hb13)
    clear Oz_0
    have A13_ := Lib.hid (A12_.out.trans (hb13.mono A12_.out.size))
    clear A12_
    rw [← HFE.out] at hO
    obtain ⟨VH, uH, rfl⟩ := OwnH.shape hO
    have OH_0 := Lib.hid hO
    have LOH := Lib.hid (fun q hq => OwnH.lt OH_0.out q hq)
    clear hO
    clear Oz_1
    obtain ⟨c0K, c1K, c2K, -⟩ := K_12.out.three
    go_wp2_with fail
    refine (eqWorkDeedS_own hFl OH_0.out OW_10.out).mono ?_
    rintro e1 w14 ⟨rfl, hb14⟩
    clear c0K c1K c2K
    have Z14 := Lib.hid (show w13.heap.size ≤ w14.heap.size from hb14.size)
    have K_13 := Lib.hid (IsBlk.keep K_12.out hb14)
    clear K_12
    have OW_11 := Lib.hid (OwnH.keep OW_10.out hb14)
    clear OW_10
    have OG_8 := Lib.hid (OwnH.keep OG_7.out hb14)
    clear OG_7
    have OH_1 := Lib.hid (OwnH.keep OH_0.out hb14)
    clear OH_0
    have A14_ := Lib.hid (A13_.out.trans (hb14.mono A13_.out.size))
    clear A13_
    obtain ⟨c0K, c1K, c2K, -⟩ := K_13.out.three
    go_wp2_with fail
    refine (heldWorkDeedS_own _ _ _ 1 (by omega) (by omega) _ hFl OG_8.out).mono ?_
    rintro e1 w' ⟨rfl, rfl⟩
    clear c0K c1K c2K
    obtain ⟨c0K, c1K, c2K, -⟩ := K_13.out.three
    go_wp2
    go_ret
    exact ⟨rfl, A14_.out⟩
end Go.Proofs.Ytafgfhjlkdjngaa
