/- The exact law of WorkValid: the walk (written by program). -/
import Derived.Test.YtafgfhjlkdjngaaWk2
import Derived.Test.YtafgfhjlkdjngaaWk6
import Derived.Test.YtafgfhjlkdjngaaWk5
import Derived.Deep.DeepCutAuto
import Derived.Deep.RegionWith
import Derived.RegionTactic
namespace Go.Proofs.Ytafgfhjlkdjngaa
open Go.ChangeShapes Go.WideShapes Go.ChangeAt Go.RowKit

set_option maxRecDepth 100000 in
set_option maxHeartbeats 8000000 in
theorem exactWorkValid_walk (w : World) (A : Option Addr) (n c : Nat) (B : Option Addr) (m d : Nat) (C : Option Addr) (q r : Nat) (a e : List Bool) (ps : List TJ) (hn : n ≤ 9223372036854775807) (hm : m ≤ 9223372036854775807) (hq : q ≤ 9223372036854775807) (hr : RowW w A n B m C q a e ps) :
    Calls Try.prog 4 #[.agg #[.slice A n c, .slice B m d, .slice C q r]] w fun e' w' => e' = .returned (.bool true) ∧ Below w.heap.size w w' := by
  have HR := Lib.hid hr
  have HA := Lib.hid hr.on.len
  have HE := Lib.hid hr.ea.len
  have HP := Lib.hid hr.pe.len
  clear hr
  have b0 := below_bx w (.cells #[.slice A n c, .slice B m d, .slice C q r] 39)
  have K0 := Lib.hid (IsBlk.new w 39 #[.slice A n c, .slice B m d, .slice C q r])
  obtain ⟨k0, k1, k2, -⟩ := K0.out.three
  by_cases h0 : n + m + q ≤ 1048576
  rotate_left
  · have hsz : szW n m q = -1 := by rw [szW, if_neg h0]
    go_enter Try.func4, Try.ntmps4
    go_wp2_with fail
    refine (szWork_any A n c B m d C q r hn hm hq _).mono ?_
    rintro e1 w1 ⟨rfl, hb1⟩
    rw [hsz]
    go_wp2
    go_ret
    exact ⟨rfl, b0.trans (hb1.mono b0.size)⟩
  have hn' : n ≤ 1048576 := by omega
  have hm' : m ≤ 1048576 := by omega
  have hq' : q ≤ 1048576 := by omega
  have HSZ := Lib.hid (show szW n m q = 1048576 - (n : Int) - (m : Int) - (q : Int) by rw [szW, if_pos h0])
  have hpos : ¬ ((1048576 : Int) - (n : Int) - (m : Int) - (q : Int) < 0) := by omega
  obtain ⟨F, hF⟩ : ∃ F, F = wkOk (a, e, ps) := ⟨_, rfl⟩
  have HFE := Lib.hid hF
  clear hF
  go_enter Try.func4, Try.ntmps4
  go_wp2_with fail
  refine (szWork_any A n c B m d C q r hn hm hq _).mono ?_
  rintro e1 w1 ⟨rfl, hb1⟩
  rw [HSZ.out]
  have A1 := Lib.hid (show Below w.heap.size w w1 from b0.trans (hb1.mono b0.size))
  have K_0 := Lib.hid (K0.out.keep hb1)
  clear k0 k1 k2 hb1 b0 K0
  have ZK := Lib.hid K_0.out.lt
  obtain ⟨c0K, c1K, c2K, -⟩ := K_0.out.three
  go_wp2_with fail
  refine (toWork_any A n c B m d C q r a e ps _ hn' hm' hq' (HR.out.below A1.out)).mono ?_
  rintro e1 w2 ⟨gas, gbs, gcs, rfl, hO, hb2⟩
  clear c0K c1K c2K
  have Z2 := Lib.hid (show w1.heap.size ≤ w2.heap.size from hb2.size)
  have K_1 := Lib.hid (IsBlk.keep K_0.out hb2)
  clear K_0
  have A2_ := Lib.hid (A1.out.trans (hb2.mono A1.out.size))
  clear A1
  have Os_0 := Lib.hid hO
  have LOs := Lib.hid (fun q hq => OwnW.lt Os_0.out q hq)
  clear hO
  obtain ⟨c0K, c1K, c2K, -⟩ := K_1.out.three
  go_wp2_with fail
  refine (specWorkValid_any _ n n _ m m _ q q a e ps _ hn' hm' hq' (Nat.le_refl _) (OwnW.row Os_0.out)).mono ?_
  rintro e1 w3 ⟨rfl, hb3⟩
  clear c0K c1K c2K
  have Z3 := Lib.hid (show w2.heap.size ≤ w3.heap.size from hb3.size)
  have K_2 := Lib.hid (IsBlk.keep K_1.out hb3)
  clear K_1
  have Os_1 := Lib.hid (OwnW.keep Os_0.out hb3)
  clear Os_0
  have A3_ := Lib.hid (A2_.out.trans (hb3.mono A2_.out.size))
  clear A2_
  clear Os_1
  obtain ⟨c0K, c1K, c2K, -⟩ := K_2.out.three
  go_wp2_with fail
  refine (toWork_any A n c B m d C q r a e ps _ hn' hm' hq' (HR.out.below A3_.out)).mono ?_
  rintro e1 w4 ⟨gax, gbx, gcx, rfl, hO, hb4⟩
  clear c0K c1K c2K
  have Z4 := Lib.hid (show w3.heap.size ≤ w4.heap.size from hb4.size)
  have K_3 := Lib.hid (IsBlk.keep K_2.out hb4)
  clear K_2
  have A4_ := Lib.hid (A3_.out.trans (hb4.mono A3_.out.size))
  clear A3_
  have Ox_0 := Lib.hid hO
  have LOx := Lib.hid (fun q hq => OwnW.lt Ox_0.out q hq)
  clear hO
  have K_4 := Lib.hid (IsBlk.alloc K_3.out (.cells #[.slice (some ⟨gax, 0, none⟩) n n, .slice (some ⟨gbx, 0, none⟩) m m, .slice (some ⟨gcx, 0, none⟩) q q] 44))
  clear K_3
  have Ox_1 := Lib.hid (OwnW.alloc Ox_0.out (.cells #[.slice (some ⟨gax, 0, none⟩) n n, .slice (some ⟨gbx, 0, none⟩) m m, .slice (some ⟨gcx, 0, none⟩) q q] 44))
  clear Ox_0
  have X_0 := Lib.hid (IsBlk.new w4 44 #[.slice (some ⟨gax, 0, none⟩) n n, .slice (some ⟨gbx, 0, none⟩) m m, .slice (some ⟨gcx, 0, none⟩) q q])
  have A5_ := Lib.hid (A4_.out.alloc A4_.out.size (.cells #[.slice (some ⟨gax, 0, none⟩) n n, .slice (some ⟨gbx, 0, none⟩) m m, .slice (some ⟨gcx, 0, none⟩) q q] 44))
  clear A4_
  have GX := Lib.hid (show w4.heap.size < (w4.alloc (.cells #[.slice (some ⟨gax, 0, none⟩) n n, .slice (some ⟨gbx, 0, none⟩) m m, .slice (some ⟨gcx, 0, none⟩) q q] 44)).heap.size by simp)
  obtain ⟨c0K, c1K, c2K, -⟩ := K_4.out.three
  obtain ⟨c0X, c1X, c2X, -⟩ := X_0.out.three
  go_wp2_with fail
  refine (workValid_any _ n n _ m m _ q q a e ps _ hn' hm' hq' (Nat.le_refl _) (OwnW.row Ox_1.out)).mono ?_
  rintro e1 w6 ⟨rfl, hb6⟩
  clear c0K c1K c2K c0X c1X c2X
  have Z6 := Lib.hid (show (w4.alloc (.cells #[.slice (some ⟨gax, 0, none⟩) n n, .slice (some ⟨gbx, 0, none⟩) m m, .slice (some ⟨gcx, 0, none⟩) q q] 44)).heap.size ≤ w6.heap.size from hb6.size)
  have K_5 := Lib.hid (IsBlk.keep K_4.out hb6)
  clear K_4
  have Ox_2 := Lib.hid (OwnW.keep Ox_1.out hb6)
  clear Ox_1
  have X_1 := Lib.hid (IsBlk.keep X_0.out hb6)
  clear X_0
  have A6_ := Lib.hid (A5_.out.trans (hb6.mono A5_.out.size))
  clear A5_
  obtain ⟨c0K, c1K, c2K, -⟩ := K_5.out.three
  obtain ⟨c0X, c1X, c2X, -⟩ := X_1.out.three
  go_upto_region 10 with fail
  have RD := Lib.hid (show RowW w6.drew A n B m C q a e ps from HR.out.below A6_.out.drew)
  have XD := Lib.hid (show IsBlk w6.drew _ 44 #[.slice (some ⟨gax, 0, none⟩) n n, .slice (some ⟨gbx, 0, none⟩) m m, .slice (some ⟨gcx, 0, none⟩) q q] from X_1.out)
  have OD := Lib.hid (OwnW.drew Ox_2.out)
  have hla : a.length ≤ 1048576 := by rw [HA.out]; exact hn'
  have hle : e.length ≤ 1048576 := by rw [HE.out]; exact hm'
  have hlp : ps.length ≤ 1048576 := by rw [HP.out]; exact hq'
  go_cut [26] (fun s wx => s = .bool false ∧ Below w6.heap.size w6 wx)
  case first =>
    go_region_with (first
      | (go_at_call 19; refine (toWork_any A n c B m d C q r a e ps _ hn' hm' hq' RD.out).mono ?_; rintro e1 wy ⟨gy1, gy2, gy3, rfl, hOy, hby⟩; obtain ⟨r0, r1, r2, -⟩ := (XD.out.keep hby).three; have OD2 := Lib.hid (OwnW.keep OD.out hby); have OY := Lib.hid hOy; clear hOy)
      | (go_at_call 21; refine (eqWork_own hla hle hlp OD2.out OY.out).mono ?_; rintro e1 wz ⟨rfl, hbz⟩))
    all_goals (go_wp2_with fail; go_meet; exact ⟨rfl, (((Below.refl w6.heap.size w6).drew).trans hby).trans (hbz.mono hby.size)⟩)
  case rest =>
    obtain ⟨rfl, hb7⟩ := hcut
    rename World => w7
    clear c0K c1K c2K c0X c1X c2X
    clear RD XD OD
    have Z7 := Lib.hid (show w6.heap.size ≤ w7.heap.size from hb7.size)
    have K_6 := Lib.hid (IsBlk.keep K_5.out hb7)
    clear K_5
    have Ox_3 := Lib.hid (OwnW.keep Ox_2.out hb7)
    clear Ox_2
    have X_2 := Lib.hid (IsBlk.keep X_1.out hb7)
    clear X_1
    have A7_ := Lib.hid (A6_.out.trans (hb7.mono A6_.out.size))
    clear A6_
    obtain ⟨c0K, c1K, c2K, -⟩ := K_6.out.three
    obtain ⟨c0X, c1X, c2X, -⟩ := X_2.out.three
    go_wp2
    go_ret
    exact ⟨rfl, A7_.out⟩
end Go.Proofs.Ytafgfhjlkdjngaa
