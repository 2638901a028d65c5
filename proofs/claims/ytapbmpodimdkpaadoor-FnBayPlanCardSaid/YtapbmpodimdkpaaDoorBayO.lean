/- Bays: the promise of BayPlan: the walk. -/
import Derived.Test.YtapbmpodimdkpaaDoorBayK
import Derived.Test.YtapbmpodimdkpaaDoorBay6
import Derived.Test.YtapbmpodimdkpaaDoorBayD
import Derived.Test.YtapbmpodimdkpaaDoorBDB
namespace Go.Proofs.YtapbmpodimdkpaaDoor
open Go.ChangeShapes Go.WideShapes Go.ChangeAt Go.RowKit

theorem RowB.keep9 {w w' : World} {A : Option Addr} {n : Nat} {code : List Int} (hr : RowB w A n code) (hb : Below w.heap.size w w') : RowB w' A n code := by
  refine ⟨hr.1, fun hp => ?_, hr.2.2⟩
  obtain ⟨b, off, e, hlt, hcl⟩ := hr.2.1 hp
  exact ⟨b, off, e, Nat.lt_of_lt_of_le hlt hb.size, fun k x hk => (hb.cell (p := ⟨b, off + k, none⟩) hlt).trans (hcl k x hk)⟩
theorem plan_no {f t : B4} (h : planB f t = false) : planF f t = [] := by
  rw [planF, if_neg]
  intro h1
  rw [planB, h1.1, h1.2] at h
  cases h
theorem plan_yes {f t : B4} (h : planB f t = true) : runF f (planF f t) = (t, (planF f t).length) ∧ (planF f t).length ≤ 5 ∧ ∀ ds, (runF f ds).1 = t → (planF f t).length ≤ (runF f ds).2 := by
  rw [planB, Bool.and_eq_true] at h
  have hp : planF f t = planN (disF f t) f t := by rw [planF, if_pos h]
  have hl : (planF f t).length = disF f t := by rw [hp, planN_len]
  refine ⟨by rw [hl, hp]; exact run_plan _ f t h.2 rfl, by rw [hl]; exact disF_le f t, fun ds he => by rw [hl]; exact run_far ds f t he⟩

set_option maxRecDepth 100000 in
set_option maxHeartbeats 8000000 in
theorem lawBayPlan_walk (w : World) (A : Option Addr) (n c : Nat) (code : List Int) (hr : RowB w A n code) (hnc : n ≤ c) (hc : c ≤ 9223372036854775807)
    (A' : Option Addr) (n' c' : Nat) (code' : List Int) (hr' : RowB w A' n' code') (hnc' : n' ≤ c') (hc' : c' ≤ 9223372036854775807) (hT : MustTab w) :
    Calls Tryd.prog 7 #[.slice A n c, .slice A' n' c'] w fun x w' => x = .returned (.bool true) ∧ Below w.heap.size w w' := by
  have HT := Lib.hid hT
  clear hT
  by_cases hbig : 1048576 < n
  · go_enter Tryd.func7, Tryd.ntmps7
    go_wp2
    go_ret
    exact ⟨rfl, Below.refl _ _⟩
  by_cases hbig2 : 1048576 < n'
  · go_enter Tryd.func7, Tryd.ntmps7
    go_wp2
    go_ret
    exact ⟨rfl, Below.refl _ _⟩
  have HR := Lib.hid hr'
  clear hr'
  go_enter Tryd.func7, Tryd.ntmps7
  go_wp2_with fail
  refine (drawBayPlan_any A n c code _ hr hnc hc).mono ?_
  rintro x w1 ⟨f, t, rfl, hb1⟩
  obtain ⟨f0, f1, f2, f3⟩ := f
  obtain ⟨t0, t1, t2, t3⟩ := t
  dsimp only [vB]
  have K1 := Lib.hid ((IsBlk.new w1 24 #[.bool f0, .bool f1, .bool f2, .bool f3]).alloc (.cells #[.bool t0, .bool t1, .bool t2, .bool t3] 24))
  have T1 := Lib.hid (IsBlk.new (w1.alloc (.cells #[.bool f0, .bool f1, .bool f2, .bool f3] 24)) 24 #[.bool t0, .bool t1, .bool t2, .bool t3])
  have a1 := Lib.hid ((hb1.alloc hb1.size (.cells #[.bool f0, .bool f1, .bool f2, .bool f3] 24)).alloc (by have := hb1.size; simp; omega) (.cells #[.bool t0, .bool t1, .bool t2, .bool t3] 24))
  simp only [World.size_alloc] at T1
  clear hb1 hr
  go_wp2_with fail
  refine (bayPlan_any f0 f1 f2 f3 t0 t1 t2 t3 _ (HT.out.keep a1.out)).mono ?_
  rintro x w2 ⟨v, rfl, hO, hb2⟩
  have K2 := Lib.hid (K1.out.keep hb2)
  have T2 := Lib.hid (T1.out.keep hb2)
  have a2 := Lib.hid (a1.out.trans (hb2.mono a1.out.size))
  have O2 := Lib.hid hO
  clear hb2 K1 T1 a1 hO
  obtain ⟨p0, p1, p2, p3, -⟩ := K2.out.four
  obtain ⟨q0, q1, q2, q3, -⟩ := T2.out.four
  go_wp2_with fail
  refine (specBayPlan_any f0 f1 f2 f3 t0 t1 t2 t3 _).mono ?_
  rintro x w3 ⟨v', rfl, hO, hb3⟩
  have K3 := Lib.hid (K2.out.keep hb3)
  have T3 := Lib.hid (T2.out.keep hb3)
  have a3 := Lib.hid (a2.out.trans (hb3.mono a2.out.size))
  have O3 := Lib.hid (OwnI.keep O2.out hb3)
  have V3 := Lib.hid hO
  clear hb3 K2 T2 a2 O2 hO p0 p1 p2 p3 q0 q1 q2 q3
  have hl8 := plan_le (f0, f1, f2, f3) (t0, t1, t2, t3)
  generalize hP : planF (f0, f1, f2, f3) (t0, t1, t2, t3) = P at *
  have HP := Lib.hid hP
  clear hP
  obtain ⟨Av, cv, rfl⟩ := OwnI.sl9' O3.out
  obtain ⟨Bv, dv, rfl⟩ := OwnI.sl9' V3.out
  go_wp2_with fail
  refine (sameInts_same Av Bv P.length cv dv P _ (by omega) (OwnI.rowZ O3.out) (OwnI.rowZ V3.out)).mono ?_
  rintro x w4 ⟨rfl, hb4⟩
  have K4 := Lib.hid (K3.out.keep hb4)
  have T4 := Lib.hid (T3.out.keep hb4)
  have a4 := Lib.hid (a3.out.trans (hb4.mono a3.out.size))
  have O4 := Lib.hid (OwnI.keep O3.out hb4)
  clear hb4 K3 T3 a3 O3 V3
  obtain ⟨p0, p1, p2, p3, -⟩ := K4.out.four
  obtain ⟨q0, q1, q2, q3, -⟩ := T4.out.four
  by_cases hB : planB (f0, f1, f2, f3) (t0, t1, t2, t3) = true
  · have HY := Lib.hid (plan_yes hB)
    rw [HP.out] at HY
    rw [hB]
    clear hB
    go_wp2_with fail
    refine (bayRun_any f0 f1 f2 f3 Av P.length cv P _ (by omega) (OwnI.rowZ O4.out) (HT.out.keep a4.out)).mono ?_
    rintro x w5 ⟨rfl, hb5⟩
    rw [HY.out.1]
    dsimp only [vB]
    have K5 := Lib.hid ((K4.out.keep hb5).alloc (.cells #[.bool t0, .bool t1, .bool t2, .bool t3] 24))
    have T5 := Lib.hid ((T4.out.keep hb5).alloc (.cells #[.bool t0, .bool t1, .bool t2, .bool t3] 24))
    have E5 := Lib.hid (IsBlk.new w5 24 #[.bool t0, .bool t1, .bool t2, .bool t3])
    have a5' := a4.out.trans (hb5.mono a4.out.size)
    have a5 := Lib.hid (a5'.alloc a5'.size (.cells #[.bool t0, .bool t1, .bool t2, .bool t3] 24))
    clear hb5 K4 T4 a4 a5' O4 p0 p1 p2 p3 q0 q1 q2 q3
    go_wp2_with fail
    refine (drawBayRun_any A' n' c' code' _ (HR.out.keep9 a5.out) hnc' hc').mono ?_
    rintro x w6 ⟨b, v, ds, rfl, hO, hd8, hb6⟩
    obtain ⟨b0, b1, b2, b3⟩ := b
    obtain ⟨Dv, ev, rfl⟩ := OwnI.sl9' hO
    dsimp only [vB]
    have K6 := Lib.hid ((K5.out.keep hb6).alloc (.cells #[.bool b0, .bool b1, .bool b2, .bool b3] 24))
    have T6 := Lib.hid ((T5.out.keep hb6).alloc (.cells #[.bool b0, .bool b1, .bool b2, .bool b3] 24))
    have E6 := Lib.hid ((E5.out.keep hb6).alloc (.cells #[.bool b0, .bool b1, .bool b2, .bool b3] 24))
    have O6 := Lib.hid (OwnI.alloc hO (.cells #[.bool b0, .bool b1, .bool b2, .bool b3] 24))
    have a6' := a5.out.trans (hb6.mono a5.out.size)
    have a6 := Lib.hid (a6'.alloc a6'.size (.cells #[.bool b0, .bool b1, .bool b2, .bool b3] 24))
    clear hb6 K5 T5 E5 a5 a6' hO
    obtain ⟨p0, p1, p2, p3, -⟩ := K6.out.four
    go_wp2_with fail
    refine (bayRun_any f0 f1 f2 f3 Dv ds.length ev ds _ (by omega) (OwnI.rowZ O6.out) (HT.out.keep a6.out)).mono ?_
    rintro x w7 ⟨rfl, hb7⟩
    have hfar := HY.out.2.2 ds
    generalize runF (f0, f1, f2, f3) ds = r at *
    obtain ⟨⟨o0, o1, o2, o3⟩, e⟩ := r
    dsimp only [vB] at hfar ⊢
    have T7 := Lib.hid ((T6.out.keep hb7).alloc (.cells #[.bool o0, .bool o1, .bool o2, .bool o3] 24))
    have E7 := Lib.hid ((E6.out.keep hb7).alloc (.cells #[.bool o0, .bool o1, .bool o2, .bool o3] 24))
    have V7 := Lib.hid (IsBlk.new w7 24 #[.bool o0, .bool o1, .bool o2, .bool o3])
    have a7' := a6.out.trans (hb7.mono a6.out.size)
    have a7 := Lib.hid (a7'.alloc a7'.size (.cells #[.bool o0, .bool o1, .bool o2, .bool o3] 24))
    clear hb7 K6 T6 E6 O6 a6 a7' p0 p1 p2 p3
    obtain ⟨q0, q1, q2, q3, -⟩ := T7.out.four
    obtain ⟨r0, r1, r2, r3, -⟩ := E7.out.four
    obtain ⟨s0, s1, s2, s3, -⟩ := V7.out.four
    have hcmp := eqlBay (t0, t1, t2, t3) (t0, t1, t2, t3)
    rw [decide_eq_true rfl] at hcmp
    have hc2 := neqBay (o0, o1, o2, o3) (t0, t1, t2, t3)
    have hl5 := HY.out.2.1
    have hle8 : (P.length : Int) ≤ 8 := by omega
    by_cases ho : (o0, o1, o2, o3) = (t0, t1, t2, t3)
    · have hge : (P.length : Int) ≤ (e : Int) := by have := hfar ho; omega
      rw [decide_eq_true ho] at hc2
      dsimp only [vB] at hcmp hc2
      clear ho hfar
      go_wp2
      go_ret
      exact ⟨rfl, a7.out⟩
    · rw [decide_eq_false ho] at hc2
      dsimp only [vB] at hcmp hc2
      clear ho hfar
      go_wp2
      go_ret
      exact ⟨rfl, a7.out⟩
  · rw [Bool.not_eq_true] at hB
    have hnil := plan_no hB
    rw [HP.out] at hnil
    subst hnil
    rw [hB]
    go_wp2_with fail
    refine (baySafe_any f0 f1 f2 f3 _).mono ?_
    rintro x w5 ⟨rfl, hb5⟩
    have T5 := Lib.hid (T4.out.keep hb5)
    have a5 := Lib.hid (a4.out.trans (hb5.mono a4.out.size))
    clear hb5 K4 T4 a4 O4 p0 p1 p2 p3 q0 q1 q2 q3
    obtain ⟨q0, q1, q2, q3, -⟩ := T5.out.four
    by_cases hs : safeF (f0, f1, f2, f3) = true
    · have ht : safeF (t0, t1, t2, t3) = false := by rw [planB, hs] at hB; simpa using hB
      rw [hs]
      go_wp2_with fail
      refine (baySafe_any t0 t1 t2 t3 _).mono ?_
      rintro x w6 ⟨rfl, hb6⟩
      rw [ht]
      have a6 := Lib.hid (a5.out.trans (hb6.mono a5.out.size))
      clear hb6 a5 T5 q0 q1 q2 q3
      go_wp2_with fail
      refine (alive_any _).mono ?_
      rintro x w7 ⟨rfl, hb7⟩
      go_wp2
      go_ret
      exact ⟨rfl, a6.out.trans (hb7.mono a6.out.size)⟩
    · rw [Bool.not_eq_true] at hs
      rw [hs]
      go_wp2_with fail
      refine (alive_any _).mono ?_
      rintro x w7 ⟨rfl, hb7⟩
      go_wp2
      go_ret
      exact ⟨rfl, a5.out.trans (hb7.mono a5.out.size)⟩
end Go.Proofs.YtapbmpodimdkpaaDoor
