/- Bays, of the model: BayDo, BayRun, numbers of bays. -/
import Derived.Test.YtapbmpodimdkpaaDoorBay2
import Derived.Deep.CutBlock
import Derived.RegionTactic
import Derived.Deep.RegionWith
namespace Go.Proofs.YtapbmpodimdkpaaDoor
open Go.ChangeShapes Go.WideShapes Go.ChangeAt Go.RowKit

theorem do_set {b : B4} {k : Nat} (hk : k < 8) (hm : mayN b k = true) : doF b (k : Int) = setF b (k / 2) (k % 2 == 1) := by rw [doF_nat hk hm]; rfl
set_option maxHeartbeats 4000000 in
theorem specBayDo_any (a b c e : Bool) (d : Int) (w : World) :
    Calls Tryd.prog 21 #[.agg #[.bool a, .bool b, .bool c, .bool e], .int .i64 d] w fun x w' => x = .returned (.tuple #[vB (doF (a, b, c, e) d), .bool (mayF (a, b, c, e) d)]) ∧ Below w.heap.size w w' := by
  have b0 : Below w.heap.size w ((w.alloc (.cells #[.bool a, .bool b, .bool c, .bool e] 24)).alloc (.cells #[.bool false, .bool false, .bool false, .bool false] 24)) := (below_bx w _).alloc (by simp) _
  have KA := Lib.hid ((IsBlk.new w 24 #[.bool a, .bool b, .bool c, .bool e]).alloc (.cells #[.bool false, .bool false, .bool false, .bool false] 24))
  have KR := Lib.hid (IsBlk.new (w.alloc (.cells #[.bool a, .bool b, .bool c, .bool e] 24)) 24 #[.bool false, .bool false, .bool false, .bool false])
  by_cases hm : mayF (a, b, c, e) d = true
  · have HM := Lib.hid hm
    obtain ⟨hd, HD⟩ : (d = 0 ∨ d = 1 ∨ d = 2 ∨ d = 3 ∨ d = 4 ∨ d = 5 ∨ d = 6 ∨ d = 7) ∧ Hid (doF (a, b, c, e) d = setF (a, b, c, e) (d.toNat / 2) (d.toNat % 2 == 1)) := by
      obtain ⟨k, rfl, hk, hmk⟩ := mayF_in hm
      exact ⟨by omega, Lib.hid (do_set hk hmk)⟩
    clear hm
    rcases hd with rfl | rfl | rfl | rfl | rfl | rfl | rfl | rfl
    all_goals go_enter Tryd.func21, Tryd.ntmps21
    all_goals go_wp2_with fail
    all_goals refine (specBayMay_any a b c e _ _).mono ?_
    all_goals rintro x w1 ⟨rfl, hb1⟩
    all_goals rw [HM.out]
    all_goals have b1 : Below w.heap.size w w1 := b0.trans (hb1.mono b0.size)
    all_goals have KR1 := Lib.hid (KR.out.keep hb1)
    all_goals obtain ⟨p0, p1, p2, p3, -⟩ := (KA.out.keep hb1).four
    all_goals simp only [World.size_alloc] at KR1
    all_goals go_wp2_with fail
    all_goals refine (l9Set_any a b c e _ _ (by decide) (by decide) _).mono ?_
    all_goals rintro x w2 ⟨rfl, hb2⟩
    all_goals have b2 : Below w.heap.size w w2 := b1.trans (hb2.mono b1.size)
    all_goals obtain ⟨r0, r1, r2, r3, s0, s1, s2, s3⟩ := (KR1.out.keep hb2).four
    all_goals clear p0 p1 p2 p3 hb1 hb2 b1 b0
    all_goals dsimp only [setF, vB]
    all_goals go_wp2
    all_goals refine bodyPost_ret (v := .tuple #[vB (doF (a, b, c, e) _), .bool (mayF (a, b, c, e) _)]) (by rw [HD.out, HM.out]; simp [results, Tryd.results21, go_sem, r0, r1, r2, r3, vB, setF]) rfl ⟨rfl, ?_⟩
    all_goals exact below_four b2 (by omega) _ _ _ _
  · have HD := Lib.hid (show vB (doF (a, b, c, e) d) = vB (a, b, c, e) by rw [doF, if_neg hm])
    rw [Bool.not_eq_true] at hm
    have HM := Lib.hid hm
    clear hm
    go_enter Tryd.func21, Tryd.ntmps21
    go_wp2_with fail
    refine (specBayMay_any a b c e d _).mono ?_
    rintro x w1 ⟨rfl, hb1⟩
    rw [HM.out]
    have b1 : Below w.heap.size w w1 := b0.trans (hb1.mono b0.size)
    have KR1 := Lib.hid (KR.out.keep hb1)
    obtain ⟨p0, p1, p2, p3, -⟩ := (KA.out.keep hb1).four
    simp only [World.size_alloc] at KR1
    obtain ⟨r0, r1, r2, r3, s0, s1, s2, s3⟩ := KR1.out.four
    clear hb1 b0
    go_wp2
    refine bodyPost_ret (v := .tuple #[.agg #[.bool a, .bool b, .bool c, .bool e], .bool false]) (by simp [results, Tryd.results21, go_sem, r0, r1, r2, r3]) rfl ⟨by rw [HD.out, HM.out]; rfl, ?_⟩
    exact below_four b1 (by omega) _ _ _ _

theorem newBay {wr w1 : World} {t : TypeId} {a b c e : Value} (h : Below (wr.alloc (.cells #[a, b, c, e] t)).drew.heap.size (wr.alloc (.cells #[a, b, c, e] t)).drew w1) : IsBlk w1 wr.heap.size t #[a, b, c, e] :=
  (show IsBlk (wr.alloc (.cells #[a, b, c, e] t)).drew wr.heap.size t #[a, b, c, e] from IsBlk.new wr _ _).keep h
theorem newBay_b {wr w1 : World} {o : Obj} (h : Below (wr.alloc o).drew.heap.size (wr.alloc o).drew w1) : Below wr.heap.size wr w1 := ((below_bx wr o).drew).trans (h.mono (by simp [World.drew]))
set_option maxHeartbeats 4000000 in
theorem specBayRun_any (a b c e : Bool) (A : Option Addr) (n cc : Nat) (ds : List Int) (w : World) (hn : n ≤ 1048576) (hr : RowZ w A n ds) :
    Calls Tryd.prog 24 #[.agg #[.bool a, .bool b, .bool c, .bool e], .slice A n cc] w fun x w' => x = .returned (.tuple #[vB (runF (a, b, c, e) ds).1, .int .i64 ((runF (a, b, c, e) ds).2 : Int)]) ∧ Below w.heap.size w w' := by
  have HR := Lib.hid hr
  have HL := Lib.hid hr.len
  clear hr
  go_enter Tryd.func24, Tryd.ntmps24
  go_wp2
  go_loopw [6] (fun i wr => ∃ (k : Nat) (x : B4), k ≤ n ∧ i = .int .i64 k ∧ runF (a, b, c, e) (ds.take k) = (x, k) ∧ Below w.heap.size w wr
      ∧ IsBlk wr w.heap.size 24 #[.bool x.1, .bool x.2.1, .bool x.2.2.1, .bool x.2.2.2] ∧ IsBlk wr (w.heap.size + 1) 24 #[.bool false, .bool false, .bool false, .bool false]) (fun i _ => n - (intOf i).toNat)
  case atStart => exact ⟨0, (a, b, c, e), by omega, rfl, run_start _ _, (below_bx w _).alloc (by simp) _, (IsBlk.new w _ _).alloc _, IsBlk.at_ (by simp) rfl rfl⟩
  case round =>
    obtain ⟨k, x, hk, rfl, hrun, hbel, hA, hB⟩ := hrel
    obtain ⟨x0, x1, x2, x3⟩ := x
    dsimp only at hA
    obtain ⟨p0, p1, p2, p3, f0, f1, f2, f3⟩ := hA.four
    obtain ⟨r0, r1, r2, r3, s0, s1, s2, s3⟩ := hB.four
    have HRUN := Lib.hid hrun
    have HAB := Lib.hid hA
    have HBB := Lib.hid hB
    clear hrun hA hB
    by_cases hlt : k < n
    · obtain ⟨b', off, z, rfl, hb', hz, g0⟩ := HR.out.at_ hlt
      rw [← hbel.cell (p := ⟨b', off + k, none⟩) hb'] at g0
      have HZ := Lib.hid hz
      clear hz
      have ii1 : (k : Int) < (n : Int) := by omega
      have hbw : b' < wr.heap.size := Nat.lt_of_lt_of_le hb' hbel.size
      have hxw : w.heap.size < wr.heap.size := HAB.out.lt
      go_upto_region 4 with fail
      go_cut [7, 8] from 9 to 28 (fun v u wx => ∃ (g : Nat) (y : B4), v = .pointer (some ⟨g, 0, none⟩) ∧ u = .bool (mayF (x0, x1, x2, x3) z) ∧ wr.heap.size ≤ g ∧ y = doF (x0, x1, x2, x3) z ∧ IsBlk wx g 24 #[.bool y.1, .bool y.2.1, .bool y.2.2.1, .bool y.2.2.2] ∧ Below wr.heap.size wr wx)
      case first =>
        go_region_with (go_at_call 21; refine (specBayDo_any x0 x1 x2 x3 z _).mono ?_; rintro y w1 ⟨rfl, hb1⟩; (first | (have hkk := newBay hb1; obtain ⟨t0, t1, t2, t3, v0, v1, v2, v3⟩ := hkk.four) | skip); generalize hy : doF (x0, x1, x2, x3) z = y; obtain ⟨y0, y1, y2, y3⟩ := y; dsimp only [vB])
        all_goals go_wp2_with fail
        all_goals go_meet
        all_goals first
          | exact ⟨w1.heap.size, (y0, y1, y2, y3), rfl, rfl, hb1.size, hy.symm, IsBlk.new w1 _ _, (((Below.refl wr.heap.size wr).drew).trans hb1).alloc hb1.size _⟩
          | exact ⟨wr.heap.size, (y0, y1, y2, y3), rfl, rfl, Nat.le_refl _, hy.symm, hkk.put4 _ _ _ _, below_four (newBay_b hb1) (Nat.le_refl _) _ _ _ _⟩
      case rest =>
        obtain ⟨g, y, rfl, rfl, hg, hy, hY, hb1⟩ := hcut
        obtain ⟨y0, y1, y2, y3⟩ := y
        dsimp only at hY
        have HY := Lib.hid hY
        have b1 := hbel.trans (hb1.mono hbel.size)
        have KA := Lib.hid (HAB.out.keep hb1)
        have KB := Lib.hid (HBB.out.keep hb1)
        have hz1 : w.heap.size + 1 < wr.heap.size := HBB.out.lt
        clear p0 p1 p2 p3 f0 f1 f2 f3 r0 r1 r2 r3 s0 s1 s2 s3 g0 HAB HBB hb1
        by_cases hm : mayF (x0, x1, x2, x3) z = true
        · have HST := Lib.hid (hy ▸ run_step HZ.out HRUN.out hm : runF (a, b, c, e) (ds.take (k + 1)) = ((y0, y1, y2, y3), k + 1))
          rw [hm]
          clear hm hy
          obtain ⟨p0, p1, p2, p3, f0, f1, f2, f3⟩ := KA.out.four
          obtain ⟨q0, q1, q2, q3, -⟩ := hY.four
          clear hY
          go_wp2
          go_roundw
          case rel => exact ⟨k + 1, (y0, y1, y2, y3), by omega, by go_num, HST.out, below_four b1 (Nat.le_refl _) _ _ _ _, KA.out.put4 _ _ _ _, KB.out.far4 (by simp) _ _ _ _⟩
          case measure => simp [intOf]; omega
        · rw [Bool.not_eq_true] at hm
          have HST := Lib.hid (run_stop HZ.out HRUN.out hm)
          rw [hm]
          clear hm hy hY
          obtain ⟨p0, p1, p2, p3, f0, f1, f2, f3⟩ := KA.out.four
          obtain ⟨r0, r1, r2, r3, s0, s1, s2, s3⟩ := KB.out.four
          go_wp2
          refine bodyPost_ret (v := .tuple #[.agg #[.bool x0, .bool x1, .bool x2, .bool x3], .int .i64 (k : Int)]) (by simp [results, Tryd.results24, go_sem, r0, r1, r2, r3]) rfl ⟨by rw [HST.out]; rfl, ?_⟩
          exact below_four b1 (by omega) _ _ _ _
    · obtain rfl : k = n := by omega
      have HST := Lib.hid (run_end (ds := ds) (by rw [HL.out]; exact HRUN.out))
      go_wp2
      refine bodyPost_ret (v := .tuple #[.agg #[.bool x0, .bool x1, .bool x2, .bool x3], .int .i64 (k : Int)]) (by simp [results, Tryd.results24, go_sem, r0, r1, r2, r3]) rfl ⟨by rw [HST.out, HL.out]; rfl, ?_⟩
      exact below_four hbel (by omega) _ _ _ _
end Go.Proofs.YtapbmpodimdkpaaDoor
