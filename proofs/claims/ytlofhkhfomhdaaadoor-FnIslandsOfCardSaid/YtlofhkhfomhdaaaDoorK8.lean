/- FnIslandsOf: the walk. -/
import Derived.Test.YtlofhkhfomhdaaaDoorD3
import Derived.Test.YtlofhkhfomhdaaaDoorG3
import Derived.Test.YtlofhkhfomhdaaaDoorI9
import Derived.Test.YtlofhkhfomhdaaaDoorK0
import Derived.Test.YtlofhkhfomhdaaaDoorK2
import Derived.Test.YtlofhkhfomhdaaaDoorK3
import Derived.Test.YtlofhkhfomhdaaaDoorJ1
import Derived.Test.YtlofhkhfomhdaaaDoorJ2
namespace Go.Proofs.YtlofhkhfomhdaaaDoor
open Go.ChangeShapes Go.WideShapes Go.ChangeAt Go.RowKit

set_option maxRecDepth 100000 in
set_option maxHeartbeats 1000000 in
theorem islandsOf_walk (w : World) (A : Option Addr) (n c : Nat) (code : List Int) (hr : RowB w A n code) (hnc : n ≤ c) (hc : c ≤ 9223372036854775807) :
    Calls Tryd.prog 5 #[.slice A n c] w fun e w' => e = .returned (.bool true) ∧ Below w.heap.size w w' := by
  by_cases hlen : n ≤ 1048576
  · go_enter Tryd.func5, Tryd.ntmps5
    go_wp2_with fail
    refine (drawIslandsOf_any A n c code _ hr hnc hc).mono ?_
    rintro e w1 ⟨bs, A1, c1, ls, v, ts, rfl, hrow, hls, hb0, hb9, hO, hts, a1⟩
    have hbx := below_bx w1 (.cells #[.int .i64 bs, .slice A1 ls.length c1] 25)
    have HR1 := Lib.hid (hrow.below hbx)
    have k1 := Lib.hid (IsBlk.new w1 25 #[.int .i64 bs, .slice A1 ls.length c1])
    have b1 : Below w.heap.size w (w1.alloc (.cells #[.int .i64 bs, .slice A1 ls.length c1] 25)) := a1.alloc a1.size _
    obtain ⟨A2, c2, rfl, _, hrt⟩ := hO.row
    have T1 := Lib.hid (hrt.below hbx)
    clear hrow hr hO hrt
    have h1 : ls.length ≤ 1048576 := by omega
    have h2 : ts.length ≤ 1048576 := by omega
    have hlr : (iofF bs ls ts).length ≤ 8 := iofF_few _ _ _
    have HN8 := Lib.hid (fun (k : Nat) (zs : List Int) (h : (iofF bs ls ts)[k]? = some zs) => (show zs.length ≤ 8 by
      obtain ⟨m, _, _, h8, _⟩ := iofF_at (iofF_some (Nat.lt_of_le_of_lt (Nat.zero_le k) (List.getElem?_eq_some_iff.1 h).1)) h
      exact h8))
    go_wp2_with fail
    refine (iof_any bs A1 ls.length c1 ls A2 ts.length c2 ts _ h1 HR1.out h2 T1.out).mono ?_
    rintro e w2 ⟨v2, rfl, hO2, hb2⟩
    have b2 := b1.trans (hb2.mono b1.size)
    have HR2 := Lib.hid (HR1.out.below hb2)
    have k2 := Lib.hid (k1.out.keep hb2)
    have T2 := Lib.hid (T1.out.below hb2)
    have L2 := Lib.hid hO2
    obtain ⟨A3, c3, rfl⟩ := hO2.form
    clear hO2 HR1 k1 T1
    obtain ⟨p0, p1, _, _⟩ := k2.out.two
    go_wp2_with fail
    refine (specIof_any bs A1 ls.length c1 ls A2 ts.length c2 ts _ h1 HR2.out h2 T2.out).mono ?_
    rintro e w3 ⟨v3, rfl, hO3, hb3⟩
    have b3 := b2.trans (hb3.mono b2.size)
    have HR3 := Lib.hid (HR2.out.below hb3)
    have k3 := Lib.hid (k2.out.keep hb3)
    have T3 := Lib.hid (T2.out.below hb3)
    have L3 := Lib.hid (OwnSS.keep L2.out hb3)
    have M3 := Lib.hid hO3
    clear hO3 HR2 k2 T2 L2 p0 p1
    go_wp2_with fail
    refine (sameLists_own (fun k zs h => Nat.le_trans (HN8.out k zs h) (by decide)) (Nat.le_trans hlr (by decide)) L3.out M3.out).mono ?_
    rintro e w4 ⟨rfl, hb4⟩
    have b4 := b3.trans (hb4.mono b3.size)
    have HR4 := Lib.hid (HR3.out.below hb4)
    have k4 := Lib.hid (k3.out.keep hb4)
    have T4 := Lib.hid (T3.out.below hb4)
    have L4 := Lib.hid (OwnSS.keep L3.out hb4)
    clear HR3 k3 T3 L3 M3
    by_cases hz : (iofF bs ls ts).length = 0
    · rw [hz]
      go_wp2_with fail
      refine (alive_any _).mono ?_
      rintro e w5 ⟨rfl, hb5⟩
      go_wp2
      go_ret
      exact ⟨rfl, b4.trans (hb5.mono b4.size)⟩
    · have hs := iofF_some (show 0 < (iofF bs ls ts).length by omega)
      have HAt := Lib.hid (fun (j : Nat) (zs : List Int) (h : (iofF bs ls ts)[j]? = some zs) => iofF_at hs h)
      have HSum := Lib.hid (show sumTo (iofF bs ls ts) (iofF bs ls ts).length = bs.toNat by rw [sumTo_all, iofF_sum hs])
      have hlb := islF_length hs
      obtain ⟨hbs1, hbs2⟩ := stOk_bs hs
      obtain ⟨B, rfl⟩ : ∃ B : Nat, bs = (B : Int) := ⟨bs.toNat, by omega⟩
      have hB : B ≤ 8 := by omega
      rw [Int.toNat_natCast] at HSum hlb
      have hz0 : (((iofF B ls ts).length : Int) == 0) = false := by rw [beq_eq_false_iff_ne]; omega
      clear hs hz
      generalize iofF B ls ts = xss at *
      obtain ⟨p0, p1, _, _⟩ := k4.out.two
      go_wp2_with fail
      refine (isl_any B A1 ls.length c1 ls A2 ts.length c2 ts _ h1 HR4.out h2 T4.out).mono ?_
      rintro e w5 ⟨v5, rfl, hO5, hb5⟩
      have b5 := b4.trans (hb5.mono b4.size)
      have k5 := Lib.hid (k4.out.keep hb5)
      have L5 := Lib.hid (OwnSS.keep L4.out hb5)
      obtain ⟨A5, c5, rfl, hz5⟩ := hO5.sl
      have Z5 := Lib.hid hz5
      clear p0 p1 hO5 hz5 HR4 T4 L4 k4
      rw [hlb] at Z5 ⊢
      generalize islF B ls ts = ns at *
      obtain ⟨p0, p1, _, _⟩ := k5.out.two
      go_wp2_with fail
      go_loopw [7, 8] (fun s i wr => ∃ k : Nat, k ≤ xss.length ∧ i = .int .i64 k ∧ s = .int .i64 (sumTo xss k : Nat) ∧ Below w5.heap.size w5 wr) (fun _ i _ => xss.length - (intOf i).toNat)
      case atStart => exact ⟨0, by omega, rfl, by simp [sumTo], Below.refl _ _⟩
      case round =>
        obtain ⟨k, hk, rfl, rfl, hbel⟩ := hrel
        have b6 := b5.trans (hbel.mono b5.size)
        have k6 := Lib.hid (k5.out.keep hbel)
        have L6 := Lib.hid (OwnSS.keep L5.out hbel)
        have Z6 := Lib.hid (Z5.out.below hbel)
        clear p0 p1
        obtain ⟨p0, p1, _, _⟩ := k6.out.two
        by_cases hlt : k < xss.length
        · obtain ⟨g, cap, u, zs, hA, hg1, hg2, hz, g0, hu, _⟩ := L6.out.at_ hlt
          injection hA with hA hA1 hA2
          subst hA
          obtain ⟨m, hm0, hmp, hm8, hme⟩ := HAt.out k zs hz
          obtain ⟨Au, cu, rfl, hzz⟩ := hu.sl
          have ZZ := Lib.hid hzz
          have HME := Lib.hid hme
          have HM0 := Lib.hid hm0
          have hs1 := sumTo_succ hz
          have hs2 : sumTo xss (k + 1) ≤ 8 := by
            have := sumTo_le xss (k + 1); have h := HSum.out; rw [sumTo_all] at h; omega
          have hw8 : IntKind.i64.wrap (((sumTo xss k : Nat) : Int) + ((zs.length : Nat) : Int)) = ((sumTo xss (k + 1) : Nat) : Int) := by rw [IntWalk.i64_in _ (by omega)]; omega
          have i0 : (0 : Int) ≤ (k : Int) := by omega
          have i1 : (k : Int) < (xss.length : Int) := by omega
          clear hz hzz hu hme hm0 hA1 hA2
          go_wp2_with fail
          go_loopw [9] (fun j wx => ∃ i : Nat, i ≤ zs.length ∧ j = .int .i64 i ∧ Below wr.heap.size wr wx) (fun j _ => zs.length - (intOf j).toNat)
          case atStart => exact ⟨0, by omega, rfl, Below.refl _ _⟩
          case round =>
            obtain ⟨i, hi, rfl, hb7⟩ := hrel
            have gg0 := (hb7.cell (p := ⟨g, k, none⟩) hg2).trans g0
            by_cases hil : i < zs.length
            · obtain ⟨bu, ou, z, hAu, hbu, hkz, g1⟩ := (ZZ.out.below hb7).at_ hil
              subst hAu
              obtain ⟨bu', ou', z', hAu', hbu', hkz', g2⟩ := (ZZ.out.below hb7).at_ hmp
              injection hAu' with hAu'
              injection hAu' with h3 h4
              subst h3 h4
              rw [HM0.out] at hkz'
              injection hkz' with hkz'
              subst hkz'
              obtain ⟨b, rfl, hb8, hns⟩ := HME.out i z hkz
              obtain ⟨bn, on', z', hA5, hbn, hkz', g3⟩ := (Z6.out.below hb7).at_ (show b < B by omega)
              subst hA5
              rw [hns] at hkz'
              injection hkz' with hkz'
              subst hkz'
              have j0 : (0 : Int) ≤ (i : Int) := by omega
              have j1 : (i : Int) < (zs.length : Int) := by omega
              have j2 : (0 : Int) ≤ (b : Int) := by omega
              have j3 : (b : Int) < (B : Int) := by omega
              have j4 : (0 : Int) < (zs.length : Int) := by omega
              rw [Nat.add_zero] at g2
              clear hns hkz hbu hbu' hbn
              go_wp2
              go_quiet (fail)
              rename_i nq
              go_wp2
              go_roundw
              case rel => exact ⟨i + 1, by omega, by go_num, below_drewN hb7 nq⟩
              case measure => simp [intOf]; omega
            · have b7 := hbel.trans (hb7.mono hbel.size)
              go_wp2_with fail
              go_roundw
              case rel => exact ⟨k + 1, by omega, by go_num, by first | rfl | (rw [hw8]) | (go_num), b7⟩
              case measure => simp [intOf]; omega
        · have hkx : k = xss.length := by omega
          subst hkx
          rw [HSum.out]
          go_wp2
          go_ret
          exact ⟨rfl, b6⟩
  · have hl2 : (1048576 : Int) < (n : Int) := by omega
    go_enter Tryd.func5, Tryd.ntmps5
    go_wp2
    go_ret
    exact ⟨rfl, Below.refl _ _⟩
end Go.Proofs.YtlofhkhfomhdaaaDoor
