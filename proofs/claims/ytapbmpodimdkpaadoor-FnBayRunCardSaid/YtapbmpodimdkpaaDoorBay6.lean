/- Bays, of the model: BayPlan. -/
import Derived.Test.YtapbmpodimdkpaaDoorBay5
import Derived.Deep.AppendLies
import Derived.Deep.RegionHeld3
import Derived.Deep.LoopGhost
namespace Go.Proofs.YtapbmpodimdkpaaDoor
open Go.ChangeShapes Go.WideShapes Go.ChangeAt Go.RowKit

/-- A list beside the boxes of two bays and a row that is read. -/
structure PlanSt (w wr : World) (f t : B4) (g : Nat) (v : Value) (zs : List Int) : Prop where
  own : OwnI 3 wr (w.heap.size + 2) v zs
  bel : Below w.heap.size w wr
  bf : IsBlk wr w.heap.size 24 #[.bool f.1, .bool f.2.1, .bool f.2.2.1, .bool f.2.2.2]
  bt : IsBlk wr (w.heap.size + 1) 24 #[.bool t.1, .bool t.2.1, .bool t.2.2.1, .bool t.2.2.2]
  row : RowZ wr (some ⟨g, 0, none⟩) 16 (farF t)
  lg : g < wr.heap.size
  fg : v.ownBlock ≠ some g
  hg : w.heap.size + 2 ≤ g
section
variable {w wr w' : World} {f t : B4} {g : Nat} {v : Value} {zs zs' : List Int}
theorem PlanSt.next (h : PlanSt w wr f t g v zs) (hb : Below wr.heap.size wr w') : PlanSt w w' f t g v zs :=
  ⟨OwnI.keep h.own hb, h.bel.trans (hb.mono h.bel.size), h.bf.keep hb, h.bt.keep hb, h.row.below hb, Nat.lt_of_lt_of_le h.lg hb.size, h.fg, h.hg⟩
theorem PlanSt.drew (h : PlanSt w wr f t g v zs) : PlanSt w wr.drew f t g v zs := ⟨h.own, h.bel.drew, h.bf, h.bt, h.row, h.lg, h.fg, h.hg⟩
theorem PlanSt.drewN (h : PlanSt w wr f t g v zs) (n : Nat) : PlanSt w (wr.drewN n) f t g v zs := ⟨OwnI.drewN h.own n, below_drewN h.bel n, h.bf, h.bt, h.row, h.lg, h.fg, h.hg⟩
theorem PlanSt.push {g' n' cap' : Nat} (h : PlanSt w wr f t g v zs) (o : Obj) (hown : OwnI 3 w' (w.heap.size + 2) (.slice (some ⟨g', 0, none⟩) n' cap') zs') (hg : (wr.alloc o).grownBy w' v.ownBlock) (hat : v.ownBlock = some g' ∨ g' = (wr.alloc o).heap.size) :
    PlanSt w w' f t g (.slice (some ⟨g', 0, none⟩) n' cap') zs' := by
  have hlow := OwnI.lt h.own
  have hsz := h.bel.size
  have hs := hg.size
  have lg := h.lg
  have hx := h.hg
  simp only [World.size_alloc] at hs
  refine ⟨hown, (h.bel.alloc hsz o).grown hg (by simp; omega) (fun q hq => by have := (hlow q hq).1; omega), (h.bf.alloc o).farG hg (fun e => by have := (hlow _ e).1; omega), (h.bt.alloc o).farG hg (fun e => by have := (hlow _ e).1; omega),
    RowV.grown (h.row.below (below_bx wr o)) hg (fun b off e e2 => ?_), by omega, fun e => ?_, hx⟩
  · injection e with e; injection e with e; subst e; exact h.fg e2
  · have e3 : g' = g := by simpa [Value.ownBlock] using e
    rcases hat with e4 | e4
    · exact h.fg (by rw [e4, e3])
    · rw [World.size_alloc] at e4; omega
theorem PlanSt.move (h : PlanSt w wr f t g v zs) (y : B4) : PlanSt w ((((wr.setCell ⟨w.heap.size, 0, none⟩ (.bool y.1)).setCell ⟨w.heap.size, 1, none⟩ (.bool y.2.1)).setCell ⟨w.heap.size, 2, none⟩ (.bool y.2.2.1)).setCell ⟨w.heap.size, 3, none⟩ (.bool y.2.2.2)) y t g v zs := by
  have hlow := OwnI.lt h.own
  have hg : wr.grownBy ((((wr.setCell ⟨w.heap.size, 0, none⟩ (.bool y.1)).setCell ⟨w.heap.size, 1, none⟩ (.bool y.2.1)).setCell ⟨w.heap.size, 2, none⟩ (.bool y.2.2.1)).setCell ⟨w.heap.size, 3, none⟩ (.bool y.2.2.2)) (some w.heap.size) :=
    grown_then (grown_then (grown_then (grown_put _ _ _ _) (grown_put _ _ _ _)) (grown_put _ _ _ _)) (grown_put _ _ _ _)
  have hx := h.hg
  refine ⟨OwnI.far h.own hg (fun q hq e => by injection e with e; have := (hlow q hq).1; omega), below_four h.bel (Nat.le_refl _) _ _ _ _, h.bf.put4 _ _ _ _, h.bt.far4 (by omega) _ _ _ _, RowV.grown h.row hg (fun b off e e2 => ?_), Nat.lt_of_lt_of_le h.lg hg.size, h.fg, hx⟩
  injection e with e; injection e with e; injection e2 with e2; omega
theorem PlanSt.far (h : PlanSt w wr f t g v zs) (y : B4) : wr.cell? ⟨g, numN y, none⟩ = some (.int .i64 (disF y t : Int)) := by
  obtain ⟨b, off, z, e, _, hz, hc⟩ := h.row.at_ (num_lt y)
  injection e with e
  injection e with e1 e2
  subst e1 e2
  rw [farF_at (num_lt y), bay_num] at hz
  injection hz with hz
  rw [hz]
  simpa using hc
end

theorem PlanSt.hold {w wr w' : World} {f t : B4} {g : Nat} {v : Value} {zs : List Int} (h : PlanSt w wr f t g v zs) (y : B4) (hb : Below wr.heap.size wr w') :
    Below wr.heap.size wr w' ∧ w'.cell? ⟨w.heap.size, 0, none⟩ = some (.bool f.1) ∧ w'.cell? ⟨w.heap.size, 1, none⟩ = some (.bool f.2.1) ∧ w'.cell? ⟨w.heap.size, 2, none⟩ = some (.bool f.2.2.1) ∧ w'.cell? ⟨w.heap.size, 3, none⟩ = some (.bool f.2.2.2)
      ∧ w'.cell? ⟨g, numN y, none⟩ = some (.int .i64 (disF y t : Int)) ∧ w'.cell? ⟨g, numN f, none⟩ = some (.int .i64 (disF f t : Int)) := by
  have h1 := h.next hb
  obtain ⟨c0, c1, c2, c3, -⟩ := h1.bf.four
  exact ⟨hb, c0, c1, c2, c3, h1.far y, h1.far f⟩
theorem set_do {b y : B4} {d : Nat} (hy : doN b d = y) : setF b ((d : Int) / 2).toNat ((d : Int).tmod 2 == 1) = y := by
  rw [← hy, doN, show ((d : Int) / 2).toNat = d / 2 by omega, show (d : Int).tmod 2 = ((d % 2 : Nat) : Int) from rfl]
  congr 1
  rw [Bool.eq_iff_iff, beq_iff_eq, beq_iff_eq]
  omega
theorem wrap_half {d : Nat} (h : d < 8) : IntKind.i64.wrap ((d : Int) / 2) = (d : Int) / 2 := IntWalk.i64_in _ (by omega)
theorem far_ne (a b : Nat) : ((a : Int) != (b : Int) - 1) = decide (¬ a + 1 = b) := by
  rw [Bool.eq_iff_iff, bne_iff_ne, decide_eq_true_eq]; omega
theorem near_lt {f t : B4} {d : Nat} (hn : nearF f t < 8) (hd : d ≤ nearF f t) (hm : mayN f d = true) (he : disF (doN f d) t + 1 = disF f t) : nearF f t = d := by
  rcases Nat.lt_or_ge d (nearF f t) with h | h
  · have := (near_spec hn).2.2 d h
    rw [hm, he] at this
    simp at this
  · omega
theorem plan_next {f t y : B4} {d k : Nat} (hn : nearF f t = d) (hy : doN f d = y) (zs : List Int) : zs ++ planN (k + 1) f t = (zs ++ [(d : Int)]) ++ planN k y t := by
  rw [planN, hn, hy]; simp
theorem hold4 {w wr w' : World} {f t : B4} {g : Nat} {v : Value} {zs : List Int} (h : PlanSt w wr f t g v zs) (hb : Below wr.heap.size wr w') :
    Below wr.heap.size wr w' ∧ w'.cell? ⟨w.heap.size, 0, none⟩ = some (.bool f.1) ∧ w'.cell? ⟨w.heap.size, 1, none⟩ = some (.bool f.2.1) ∧ w'.cell? ⟨w.heap.size, 2, none⟩ = some (.bool f.2.2.1) ∧ w'.cell? ⟨w.heap.size, 3, none⟩ = some (.bool f.2.2.2) := by
  obtain ⟨c0, c1, c2, c3, -⟩ := (h.next hb).bf.four
  exact ⟨hb, c0, c1, c2, c3⟩
theorem runP {w0 w w' : World} {p : Prop} (h : Below w0.heap.size w0 w ∧ p) (hb : Below w.heap.size w w') : Below w0.heap.size w0 w' := h.1.trans (hb.mono h.1.size)
theorem neqBay (x y : B4) (w : World) : (binOp .neq 24 (vB x) (vB y)).run Tryd.prog w = .ok (.bool (!decide (x = y))) w := by
  obtain ⟨a, b, c, e⟩ := x
  obtain ⟨a', b', c', e'⟩ := y
  cases a <;> cases b <;> cases c <;> cases e <;> cases a' <;> cases b' <;> cases c' <;> cases e' <;> kernel_rfl
theorem OwnI.sl9 {e : TypeId} {w : World} {base : Nat} {v : Value} {zs : List Int} (h : OwnI e w base v zs) : ∃ A c, v = .slice A zs.length c := by
  rcases h.2 with ⟨rfl, h0⟩ | ⟨g, cap, cur, rfl, hb, hg, hn, hc, hsz, ht⟩
  · exact ⟨none, 0, by rw [h0]⟩
  · exact ⟨_, cap, rfl⟩
set_option maxRecDepth 100000 in
set_option maxHeartbeats 8000000 in
theorem specBayPlan_any (a b c e p q r s : Bool) (w : World) :
    Calls Tryd.prog 27 #[.agg #[.bool a, .bool b, .bool c, .bool e], .agg #[.bool p, .bool q, .bool r, .bool s]] w fun x w' => ∃ v, x = .returned (.tuple #[v, .bool (planB (a, b, c, e) (p, q, r, s))]) ∧ OwnI 3 w' w.heap.size v (planF (a, b, c, e) (p, q, r, s)) ∧ Below w.heap.size w w' := by
  obtain ⟨i0, hi, hz0, hz1, hz2⟩ := info_parts intInfo6
  have HI := Lib.hid hi
  have hown0 := ownLit ((w.alloc (.cells #[.bool a, .bool b, .bool c, .bool e] 24)).alloc (.cells #[.bool p, .bool q, .bool r, .bool s] 24))
  simp only [World.size_alloc] at hown0
  have O0 := Lib.hid hown0
  have b0 := Lib.hid (show Below w.heap.size w (((w.alloc (.cells #[.bool a, .bool b, .bool c, .bool e] 24)).alloc (.cells #[.bool p, .bool q, .bool r, .bool s] 24)).alloc (.cells #[] 3)) from ((below_bx w _).alloc (by simp) _).alloc (by simp; omega) _)
  have KF := Lib.hid (((IsBlk.new w 24 #[.bool a, .bool b, .bool c, .bool e]).alloc (.cells #[.bool p, .bool q, .bool r, .bool s] 24)).alloc (.cells #[] 3))
  have KT := Lib.hid ((IsBlk.new (w.alloc (.cells #[.bool a, .bool b, .bool c, .bool e] 24)) 24 #[.bool p, .bool q, .bool r, .bool s]).alloc (.cells #[] 3))
  simp only [World.size_alloc] at KT
  clear hi hown0
  go_enter Tryd.func27, Tryd.ntmps27
  go_upto_region 2 with fail
  generalize ((w.alloc (.cells #[.bool a, .bool b, .bool c, .bool e] 24)).alloc (.cells #[.bool p, .bool q, .bool r, .bool s] 24)).alloc (.cells #[] 3) = W0 at *
  obtain ⟨p0, p1, p2, p3, -⟩ := KF.out.four
  obtain ⟨q0, q1, q2, q3, -⟩ := KT.out.four
  go_wp2_with fail
  refine (specBaySafe_any a b c e _).mono ?_
  rintro x w1 ⟨rfl, hb1⟩
  have b1 := Lib.hid (b0.out.trans (hb1.mono b0.out.size))
  have O1 := Lib.hid (OwnI.keep O0.out hb1)
  have KF1 := Lib.hid (KF.out.keep hb1)
  have KT1 := Lib.hid (KT.out.keep hb1)
  clear p0 p1 p2 p3 q0 q1 q2 q3 hb1 O0 KF KT
  obtain ⟨q0, q1, q2, q3, -⟩ := KT1.out.four
  by_cases hs1 : safeF (a, b, c, e) = true
  · rw [hs1]
    go_wp2_with fail
    refine (specBaySafe_any p q r s _).mono ?_
    rintro x w2 ⟨rfl, hb2⟩
    have b2 := Lib.hid (b1.out.trans (hb2.mono b1.out.size))
    have O2 := Lib.hid (OwnI.keep O1.out hb2)
    have KF2 := Lib.hid (KF1.out.keep hb2)
    have KT2 := Lib.hid (KT1.out.keep hb2)
    have HS1 := Lib.hid hs1
    clear q0 q1 q2 q3 hb2 O1 KF1 KT1 hs1
    by_cases hs2 : safeF (p, q, r, s) = true
    · have HS2 := Lib.hid hs2
      have HF := Lib.hid (show planF (a, b, c, e) (p, q, r, s) = planN (disF (a, b, c, e) (p, q, r, s)) (a, b, c, e) (p, q, r, s) by rw [planF, if_pos ⟨HS1.out, HS2.out⟩])
      have HB := Lib.hid (show planB (a, b, c, e) (p, q, r, s) = true by rw [planB, HS1.out, HS2.out]; rfl)
      rw [hs2]
      clear hs2
      obtain ⟨q0, q1, q2, q3, -⟩ := KT2.out.four
      go_wp2_with fail
      refine (l9Far_any p q r s HS2.out _).mono ?_
      rintro x w3 ⟨g, cap, rfl, hg, hrow, hb3⟩
      have hk2 : w.heap.size + 2 < w2.heap.size := (OwnI.lt O2.out (w.heap.size + 2) rfl).2
      have S3 := Lib.hid (show PlanSt w w3 (a, b, c, e) (p, q, r, s) g (.slice (some ⟨w.heap.size + 2, 0, none⟩) 0 0) [] from
        ⟨OwnI.keep O2.out hb3, b2.out.trans (hb3.mono b2.out.size), KF2.out.keep hb3, KT2.out.keep hb3, OwnI.rowZ hrow, (OwnI.lt hrow g rfl).2, by simp [Value.ownBlock]; omega, by omega⟩)
      have HN := Lib.hid (show disF (a, b, c, e) (p, q, r, s) ≤ 5 from disF_le _ _)
      clear q0 q1 q2 q3 hb3 hrow O2 KF2 KT2 b2 hg hk2
      go_wp2
      go_loopg [6] (disF (a, b, c, e) (p, q, r, s)) (fun k v wr => ∃ (f : B4) (zs : List Int), PlanSt w wr f (p, q, r, s) g v zs ∧ zs ++ planN k f (p, q, r, s) = planF (a, b, c, e) (p, q, r, s) ∧ disF f (p, q, r, s) = k ∧ zs.length + k ≤ 5)
      case atStart => exact ⟨_, _, S3.out, by rw [HF.out]; rfl, rfl, by simpa using HN.out⟩
      case round =>
        obtain ⟨f, zs, hst, hzs, hdis, hlen⟩ := hrel
        obtain ⟨f0, f1, f2, f3⟩ := f
        obtain ⟨Av, cv, hv⟩ := hst.own.sl9
        subst hv
        have SK := Lib.hid hst
        have HZS := Lib.hid hzs
        have HDIS := Lib.hid hdis
        clear hst hzs hdis S3 HF HN
        obtain ⟨p0, p1, p2, p3, -⟩ := SK.out.bf.four
        obtain ⟨q0, q1, q2, q3, -⟩ := SK.out.bt.four
        have hcmp := neqBay (f0, f1, f2, f3) (p, q, r, s)
        dsimp only [vB] at hcmp
        by_cases hft : (f0, f1, f2, f3) = (p, q, r, s)
        · have HE := Lib.hid (dis_iff.2 hft)
          rw [decide_eq_true hft] at hcmp
          clear hft
          go_wp2
          go_ret2
          refine ⟨.slice Av zs.length cv, by rw [HB.out]; rfl, ?_, SK.out.bel⟩
          have hz := HZS.out
          rw [show gk = 0 by rw [← HDIS.out, HE.out], planN, List.append_nil] at hz
          rw [← hz]
          exact OwnI.more_ SK.out.own (by omega)
        · have HNT := Lib.hid hft
          have hn8 := near_to HS2.out hft
          rw [decide_eq_false hft] at hcmp
          clear hft
          go_wp2
          go_loopw [8] (fun i wr => ∃ d : Nat, i = .int .i64 d ∧ d ≤ nearF (f0, f1, f2, f3) (p, q, r, s) ∧ PlanSt w wr (f0, f1, f2, f3) (p, q, r, s) g (.slice Av zs.length cv) zs) (fun i _ => 8 - (intOf i).toNat)
          case atStart => exact ⟨0, rfl, by omega, SK.out⟩
          case round =>
            obtain ⟨d, rfl, hd, hst⟩ := hrel
            have SD := Lib.hid hst
            have hld : d < 8 := by omega
            clear hst SK p0 p1 p2 p3 q0 q1 q2 q3 hcmp
            obtain ⟨p0, p1, p2, p3, -⟩ := SD.out.bf.four
            have hdd : decide ((d : Int) < 8) = true := decide_eq_true (by omega)
            by_cases hm : mayN (f0, f1, f2, f3) d = true
            · have HM := Lib.hid hm
              have HMF := Lib.hid ((mayF_nat hld).trans hm)
              generalize hy : doN (f0, f1, f2, f3) d = y
              obtain ⟨y0, y1, y2, y3⟩ := y
              have HY := Lib.hid hy
              have hd0 : (0 : Int) ≤ (d : Int) := by omega
              have hd8 : (d : Int) < 8 := by omega
              have hn1 := num_lt (y0, y1, y2, y3)
              have hn2 := num_lt (f0, f1, f2, f3)
              have hi1 : ((numN (y0, y1, y2, y3) : Nat) : Int) < 16 := by omega
              have hi2 : ((numN (f0, f1, f2, f3) : Nat) : Int) < 16 := by omega
              have hj1 : (0 : Int) ≤ ((numN (y0, y1, y2, y3) : Nat) : Int) := by omega
              have hj2 : (0 : Int) ≤ ((numN (f0, f1, f2, f3) : Nat) : Int) := by omega
              have he1 := disF_le (f0, f1, f2, f3) (p, q, r, s)
              have he2 : ((disF (f0, f1, f2, f3) (p, q, r, s) : Nat) : Int) ≤ 5 := by omega
              have he3 : (0 : Int) ≤ ((disF (f0, f1, f2, f3) (p, q, r, s) : Nat) : Int) := by omega
              have HW := Lib.hid (wrap_half hld)
              have HP0 := Lib.hid (show (0 : Int) ≤ (d : Int) / 2 by omega)
              have HP4 := Lib.hid (show (d : Int) / 2 < 4 by omega)
              have HSET := Lib.hid (set_do hy)
              have HHOLD := Lib.hid (fun w' hb => SD.out.hold (y0, y1, y2, y3) (w' := w') hb)
              clear hm hy
              go_upto_region 7 with fail
              go_cut [47] from 24 to 49 (fun v wx => v = .bool (decide (¬ disF (y0, y1, y2, y3) (p, q, r, s) + 1 = disF (f0, f1, f2, f3) (p, q, r, s))) ∧ Below wr.heap.size wr wx)
              case first =>
                go_region_held3 (fun w' => Below wr.heap.size wr w' ∧ w'.cell? ⟨w.heap.size, 0, none⟩ = some (.bool f0) ∧ w'.cell? ⟨w.heap.size, 1, none⟩ = some (.bool f1) ∧ w'.cell? ⟨w.heap.size, 2, none⟩ = some (.bool f2) ∧ w'.cell? ⟨w.heap.size, 3, none⟩ = some (.bool f3) ∧ w'.cell? ⟨g, numN (y0, y1, y2, y3), none⟩ = some (.int .i64 (disF (y0, y1, y2, y3) (p, q, r, s) : Int)) ∧ w'.cell? ⟨g, numN (f0, f1, f2, f3), none⟩ = some (.int .i64 (disF (f0, f1, f2, f3) (p, q, r, s) : Int)))
                  (first | exact HHOLD.out _ hB11 | exact HHOLD.out _ hB10 | exact HHOLD.out _ hB9 | exact HHOLD.out _ hB8 | exact HHOLD.out _ (Below.drew (Below.refl _ _)) | exact HHOLD.out _ (Below.refl _ _))
                  (first
                    | (go_at_call 18; (with_reducible refine (specBayMay_any f0 f1 f2 f3 d _).mono ?_); rintro z w8 ⟨rfl, hb8⟩; have hB8 := runP (by assumption) hb8; rw [HMF.out])
                    | (go_at_call 46; rw [HW.out]; (with_reducible refine (l9Set_any f0 f1 f2 f3 ((d : Int) / 2) ((d : Int).tmod 2 == 1) HP0.out HP4.out _).mono ?_); rintro z w9 ⟨rfl, hb9⟩; have hB9 := runP (by assumption) hb9; rw [HSET.out]; dsimp only [vB])
                    | (go_at_call 51; (with_reducible refine (l9Number_any y0 y1 y2 y3 _).mono ?_); rintro z w10 ⟨rfl, hb10⟩; have hB10 := runP (by assumption) hb10)
                    | (go_at_call 51; (with_reducible refine (l9Number_any f0 f1 f2 f3 _).mono ?_); rintro z w11 ⟨rfl, hb11⟩; have hB11 := runP (by assumption) hb11))
                rename_i hF
                go_wp2_with fail
                go_meet
                exact ⟨by rw [show IntKind.i64.wrap (((disF (f0, f1, f2, f3) (p, q, r, s) : Nat) : Int) - 1) = ((disF (f0, f1, f2, f3) (p, q, r, s) : Nat) : Int) - 1 from IntWalk.i64_in _ (by omega), far_ne], hF.1⟩
              case rest =>
                obtain ⟨rfl, hb8⟩ := hcut
                have S8 := Lib.hid (SD.out.next hb8)
                clear SD p0 p1 p2 p3 hb8 HHOLD
                by_cases hq : disF (y0, y1, y2, y3) (p, q, r, s) + 1 = disF (f0, f1, f2, f3) (p, q, r, s)
                · have HQ := Lib.hid (near_lt hn8 hd HM.out (by rw [HY.out]; exact hq))
                  have hgk : gk = disF (y0, y1, y2, y3) (p, q, r, s) + 1 := by rw [← HDIS.out, ← hq]
                  have HGK := Lib.hid hgk
                  have hz := S8.out.bel.size
                  have hz8 := S8.out.bt.lt
                  have HOWN := Lib.hid S8.out.own
                  have hzl : zs.length ≤ 5 := by omega
                  rw [show decide (¬ disF (y0, y1, y2, y3) (p, q, r, s) + 1 = disF (f0, f1, f2, f3) (p, q, r, s)) = false by simp [hq]]
                  clear hq hgk
                  go_wp2_with (
                    at_builtin
                    refine wpList_append_lies _ rfl _ _ _ rfl (w.heap.size + 2) 3 i0 (.int .i64 0) 1 8 Tryd.underlying34 HI.out hz0 hz1 hz2 rfl (by decide) _ _ _ rfl (World.ownsRow.alloc HOWN.out _) ⟨wc.heap.size, 0, none⟩ 1 1 [.int .i64 (d : Int)] rfl rfl ?c1 ?c2 ?c0 ?c3 ?c4 ?c5 _ rfl ?_
                    case c1 => exact cell_one_new _ _ _
                    case c2 => intro u hu; simp at hu; subst hu; rfl
                    case c0 => omega
                    case c3 => simp only [maxLen]; omega
                    case c4 => omega
                    case c5 => simp; omega
                    intro g' cap' w6 hown' hgrow hat hlt3
                    have S6 := Lib.hid (S8.out.push (zs' := zs ++ [(d : Int)]) (.cells #[.int .i64 (d : Int)] 3) (by simpa [OwnI] using hown') hgrow hat)
                    obtain ⟨t0, t1, t2, t3, -⟩ := S6.out.bf.four)
                  refine (l9Set_any f0 f1 f2 f3 ((d : Int) / 2) ((d : Int) % 2 == 1) HP0.out HP4.out _).mono ?_
                  rintro x w7 ⟨rfl, hb7⟩
                  rw [show setF (f0, f1, f2, f3) ((d : Int) / 2).toNat ((d : Int) % 2 == 1) = (y0, y1, y2, y3) from HSET.out]
                  dsimp only [vB]
                  have S7 := Lib.hid (S6.out.next hb7)
                  clear t0 t1 t2 t3 S6 hb7 S8
                  obtain ⟨t0, t1, t2, t3, k0, k1, k2, k3⟩ := S7.out.bf.four
                  have hzs1 : (zs ++ [(d : Int)]).length = zs.length + 1 := by simp
                  have HL1 := Lib.hid hzs1
                  clear hzs1
                  go_wp2
                  go_roundg (disF (y0, y1, y2, y3) (p, q, r, s))
                  case rel => exact ⟨(y0, y1, y2, y3), zs ++ [(d : Int)], S7.out.move (y0, y1, y2, y3), by rw [← plan_next HQ.out HY.out, ← HGK.out]; exact HZS.out, rfl, by rw [HL1.out]; have := HGK.out; omega⟩
                  case measure => have := HGK.out; omega
                · have hne : d ≠ nearF (f0, f1, f2, f3) (p, q, r, s) := fun e => hq (by have := (near_spec hn8).2.1; rw [← e, HY.out] at this; exact this)
                  rw [show decide (¬ disF (y0, y1, y2, y3) (p, q, r, s) + 1 = disF (f0, f1, f2, f3) (p, q, r, s)) = true by simp [hq]]
                  clear hq
                  go_wp2
                  go_roundw
                  case rel => exact ⟨d + 1, by go_num, by omega, S8.out⟩
                  case measure => simp [intOf]; omega
            · rw [Bool.not_eq_true] at hm
              have HM := Lib.hid hm
              have HMF := Lib.hid ((mayF_nat hld).trans hm)
              clear hm
              have hne : d ≠ nearF (f0, f1, f2, f3) (p, q, r, s) := fun e => by
                have := (near_spec hn8).1
                rw [← e, HM.out] at this
                cases this
              go_upto_region 7 with fail
              go_cut [47] from 24 to 49 (fun v wx => v = .bool true ∧ Below wr.heap.size wr wx)
              case first =>
                have HH8 := Lib.hid (fun w' (hb : Below wr.heap.size wr w') => hold4 SD.out hb)
                refine wp_region_held_drew (S := (fun w' => Below wr.heap.size wr w' ∧ w'.cell? ⟨w.heap.size, 0, none⟩ = some (.bool f0) ∧ w'.cell? ⟨w.heap.size, 1, none⟩ = some (.bool f1) ∧ w'.cell? ⟨w.heap.size, 2, none⟩ = some (.bool f2) ∧ w'.cell? ⟨w.heap.size, 3, none⟩ = some (.bool f3))) (by kernel_rfl) (HH8.out _ (Below.drew (Below.refl _ _))) (fun hHeld => ?_)
                refine wpAnyH_take (i := 0) (v := .agg #[.bool f0, .bool f1, .bool f2, .bool f3]) rfl (by kernel_rfl) (by kernel_rfl) (by kernel_rfl) (fun _ _ _ h => h) (Or.inl ⟨by kernel_rfl, fun w hSw => by (try dsimp only at hSw); go_simp⟩) hHeld ?_
                try simp only [Act.put, List.getElem_toArray, List.getElem_cons_zero, List.setIfInBounds_toArray, List.set_cons_zero, List.set_cons_succ]
                refine wpAnyH_take (i := 1) (v := .int .i64 (d : Int)) rfl (by kernel_rfl) (by kernel_rfl) (by kernel_rfl) (fun _ _ _ h => h) (Or.inl ⟨by kernel_rfl, fun w hSw => by (try dsimp only at hSw); go_simp⟩) hHeld ?_
                try simp only [Act.put, List.getElem_toArray, List.getElem_cons_zero, List.getElem_cons_succ, List.setIfInBounds_toArray, List.set_cons_zero, List.set_cons_succ]
                refine wpAnyH_ready (rs := [2]) (by kernel_rfl) (by simp) ?_
                refine AllReadyH.cons rfl (fun K hK => ?_) AllReadyH.nil
                go_simp
                refine (specBayMay_any f0 f1 f2 f3 d _).mono ?_
                rintro e w8 ⟨rfl, hb8⟩
                rw [HMF.out]
                go_simp
                refine hK.out _ _ (HH8.out _ (runP hHeld hb8)) (fun hHeld => ?_)
                clear hK K
                refine wpAnyH_take (i := 3) (v := .bool true) rfl (by kernel_rfl) (by kernel_rfl) (by kernel_rfl) (fun _ _ _ h => h) (Or.inl ⟨by kernel_rfl, fun w hSw => by (try dsimp only at hSw); go_simp⟩) hHeld ?_
                try simp only [Act.put, List.getElem_toArray, List.getElem_cons_zero, List.getElem_cons_succ, List.setIfInBounds_toArray, List.set_cons_zero, List.set_cons_succ]
                refine wpAnyH_take (i := 4) (v := .bool true) rfl (by kernel_rfl) (by kernel_rfl) (by kernel_rfl) (fun _ _ _ h => h) (Or.inl ⟨by kernel_rfl, fun w hSw => by (try dsimp only at hSw); go_simp⟩) hHeld ?_
                try simp only [Act.put, List.getElem_toArray, List.getElem_cons_zero, List.getElem_cons_succ, List.setIfInBounds_toArray, List.set_cons_zero, List.set_cons_succ]
                refine wpAnyH_take (i := 5) (v := undef) rfl (by kernel_rfl) (by kernel_rfl) (by kernel_rfl) (fun _ _ _ h => h) (Or.inr ⟨by kernel_rfl, rfl⟩) hHeld ?_
                try simp only [Act.put, List.getElem_toArray, List.getElem_cons_zero, List.getElem_cons_succ, List.setIfInBounds_toArray, List.set_cons_zero, List.set_cons_succ]
                refine wpAnyH_take (i := 6) (v := undef) rfl (by kernel_rfl) (by kernel_rfl) (by kernel_rfl) (fun _ _ _ h => h) (Or.inr ⟨by kernel_rfl, rfl⟩) hHeld ?_
                try simp only [Act.put, List.getElem_toArray, List.getElem_cons_zero, List.getElem_cons_succ, List.setIfInBounds_toArray, List.set_cons_zero, List.set_cons_succ]
                refine wpAnyH_take (i := 7) (v := undef) rfl (by kernel_rfl) (by kernel_rfl) (by kernel_rfl) (fun _ _ _ h => h) (Or.inr ⟨by kernel_rfl, rfl⟩) hHeld ?_
                try simp only [Act.put, List.getElem_toArray, List.getElem_cons_zero, List.getElem_cons_succ, List.setIfInBounds_toArray, List.set_cons_zero, List.set_cons_succ]
                refine wpAnyH_take (i := 8) (v := undef) rfl (by kernel_rfl) (by kernel_rfl) (by kernel_rfl) (fun _ _ _ h => h) (Or.inr ⟨by kernel_rfl, rfl⟩) hHeld ?_
                try simp only [Act.put, List.getElem_toArray, List.getElem_cons_zero, List.getElem_cons_succ, List.setIfInBounds_toArray, List.set_cons_zero, List.set_cons_succ]
                refine wpAnyH_take (i := 9) (v := undef) rfl (by kernel_rfl) (by kernel_rfl) (by kernel_rfl) (fun _ _ _ h => h) (Or.inr ⟨by kernel_rfl, rfl⟩) hHeld ?_
                try simp only [Act.put, List.getElem_toArray, List.getElem_cons_zero, List.getElem_cons_succ, List.setIfInBounds_toArray, List.set_cons_zero, List.set_cons_succ]
                refine wpAnyH_take (i := 10) (v := undef) rfl (by kernel_rfl) (by kernel_rfl) (by kernel_rfl) (fun _ _ _ h => h) (Or.inr ⟨by kernel_rfl, rfl⟩) hHeld ?_
                try simp only [Act.put, List.getElem_toArray, List.getElem_cons_zero, List.getElem_cons_succ, List.setIfInBounds_toArray, List.set_cons_zero, List.set_cons_succ]
                refine wpAnyH_take (i := 11) (v := undef) rfl (by kernel_rfl) (by kernel_rfl) (by kernel_rfl) (fun _ _ _ h => h) (Or.inr ⟨by kernel_rfl, rfl⟩) hHeld ?_
                try simp only [Act.put, List.getElem_toArray, List.getElem_cons_zero, List.getElem_cons_succ, List.setIfInBounds_toArray, List.set_cons_zero, List.set_cons_succ]
                refine wpAnyH_take (i := 12) (v := undef) rfl (by kernel_rfl) (by kernel_rfl) (by kernel_rfl) (fun _ _ _ h => h) (Or.inr ⟨by kernel_rfl, rfl⟩) hHeld ?_
                try simp only [Act.put, List.getElem_toArray, List.getElem_cons_zero, List.getElem_cons_succ, List.setIfInBounds_toArray, List.set_cons_zero, List.set_cons_succ]
                refine wpAnyH_take (i := 13) (v := undef) rfl (by kernel_rfl) (by kernel_rfl) (by kernel_rfl) (fun _ _ _ h => h) (Or.inr ⟨by kernel_rfl, rfl⟩) hHeld ?_
                try simp only [Act.put, List.getElem_toArray, List.getElem_cons_zero, List.getElem_cons_succ, List.setIfInBounds_toArray, List.set_cons_zero, List.set_cons_succ]
                refine wpAnyH_take (i := 14) (v := undef) rfl (by kernel_rfl) (by kernel_rfl) (by kernel_rfl) (fun _ _ _ h => h) (Or.inr ⟨by kernel_rfl, rfl⟩) hHeld ?_
                try simp only [Act.put, List.getElem_toArray, List.getElem_cons_zero, List.getElem_cons_succ, List.setIfInBounds_toArray, List.set_cons_zero, List.set_cons_succ]
                refine wpAnyH_take (i := 15) (v := undef) rfl (by kernel_rfl) (by kernel_rfl) (by kernel_rfl) (fun _ _ _ h => h) (Or.inr ⟨by kernel_rfl, rfl⟩) hHeld ?_
                try simp only [Act.put, List.getElem_toArray, List.getElem_cons_zero, List.getElem_cons_succ, List.setIfInBounds_toArray, List.set_cons_zero, List.set_cons_succ]
                refine wpAnyH_take (i := 16) (v := undef) rfl (by kernel_rfl) (by kernel_rfl) (by kernel_rfl) (fun _ _ _ h => h) (Or.inr ⟨by kernel_rfl, rfl⟩) hHeld ?_
                try simp only [Act.put, List.getElem_toArray, List.getElem_cons_zero, List.getElem_cons_succ, List.setIfInBounds_toArray, List.set_cons_zero, List.set_cons_succ]
                refine wpAnyH_take (i := 17) (v := undef) rfl (by kernel_rfl) (by kernel_rfl) (by kernel_rfl) (fun _ _ _ h => h) (Or.inr ⟨by kernel_rfl, rfl⟩) hHeld ?_
                try simp only [Act.put, List.getElem_toArray, List.getElem_cons_zero, List.getElem_cons_succ, List.setIfInBounds_toArray, List.set_cons_zero, List.set_cons_succ]
                refine wpAnyH_take (i := 18) (v := undef) rfl (by kernel_rfl) (by kernel_rfl) (by kernel_rfl) (fun _ _ _ h => h) (Or.inr ⟨by kernel_rfl, rfl⟩) hHeld ?_
                try simp only [Act.put, List.getElem_toArray, List.getElem_cons_zero, List.getElem_cons_succ, List.setIfInBounds_toArray, List.set_cons_zero, List.set_cons_succ]
                refine wpAnyH_take (i := 19) (v := undef) rfl (by kernel_rfl) (by kernel_rfl) (by kernel_rfl) (fun _ _ _ h => h) (Or.inr ⟨by kernel_rfl, rfl⟩) hHeld ?_
                try simp only [Act.put, List.getElem_toArray, List.getElem_cons_zero, List.getElem_cons_succ, List.setIfInBounds_toArray, List.set_cons_zero, List.set_cons_succ]
                refine wpAnyH_take (i := 20) (v := undef) rfl (by kernel_rfl) (by kernel_rfl) (by kernel_rfl) (fun _ _ _ h => h) (Or.inr ⟨by kernel_rfl, rfl⟩) hHeld ?_
                try simp only [Act.put, List.getElem_toArray, List.getElem_cons_zero, List.getElem_cons_succ, List.setIfInBounds_toArray, List.set_cons_zero, List.set_cons_succ]
                refine wpAnyH_take (i := 21) (v := undef) rfl (by kernel_rfl) (by kernel_rfl) (by kernel_rfl) (fun _ _ _ h => h) (Or.inr ⟨by kernel_rfl, rfl⟩) hHeld ?_
                try simp only [Act.put, List.getElem_toArray, List.getElem_cons_zero, List.getElem_cons_succ, List.setIfInBounds_toArray, List.set_cons_zero, List.set_cons_succ]
                refine wpAnyH_take (i := 22) (v := undef) rfl (by kernel_rfl) (by kernel_rfl) (by kernel_rfl) (fun _ _ _ h => h) (Or.inr ⟨by kernel_rfl, rfl⟩) hHeld ?_
                try simp only [Act.put, List.getElem_toArray, List.getElem_cons_zero, List.getElem_cons_succ, List.setIfInBounds_toArray, List.set_cons_zero, List.set_cons_succ]
                refine wpAnyH_take (i := 23) (v := .bool true) rfl (by kernel_rfl) (by kernel_rfl) (by kernel_rfl) (fun _ _ _ h => h) (Or.inl ⟨by kernel_rfl, fun w hSw => by (try dsimp only at hSw); go_simp⟩) hHeld ?_
                try simp only [Act.put, List.getElem_toArray, List.getElem_cons_zero, List.getElem_cons_succ, List.setIfInBounds_toArray, List.set_cons_zero, List.set_cons_succ]
                refine wpAnyH_done (by kernel_rfl) ?_ _
                go_wp2_with fail
                go_meet
                exact ⟨rfl, hHeld.1⟩
              case rest =>
                obtain ⟨rfl, hb8⟩ := hcut
                have S8 := Lib.hid (SD.out.next hb8)
                clear SD p0 p1 p2 p3 hb8
                go_wp2
                go_roundw
                case rel => exact ⟨d + 1, by go_num, by omega, S8.out⟩
                case measure => simp [intOf]; omega
    · rw [Bool.not_eq_true] at hs2
      have HS2 := Lib.hid hs2
      rw [hs2]
      clear hs2
      go_wp2
      go_ret2
      exact ⟨_, by rw [planB, HS1.out, HS2.out]; rfl, by rw [planF, if_neg (by rw [HS2.out]; simp)]; exact OwnI.more_ O2.out (by omega), b2.out⟩
  · rw [Bool.not_eq_true] at hs1
    have HS1 := Lib.hid hs1
    rw [hs1]
    clear hs1
    go_wp2
    go_ret2
    exact ⟨_, by rw [planB, HS1.out]; rfl, by rw [planF, if_neg (by rw [HS1.out]; simp)]; exact OwnI.more_ O1.out (by omega), b1.out⟩
end Go.Proofs.YtapbmpodimdkpaaDoor
