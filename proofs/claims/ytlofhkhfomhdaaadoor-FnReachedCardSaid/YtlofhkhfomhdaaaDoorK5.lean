/- FnReached: the walk. -/
import Derived.Test.YtlofhkhfomhdaaaDoorD3
import Derived.Test.YtlofhkhfomhdaaaDoorD6
import Derived.Test.YtlofhkhfomhdaaaDoorG3
import Derived.Test.YtlofhkhfomhdaaaDoorI9
import Derived.Test.YtlofhkhfomhdaaaDoorK0
import Derived.Test.YtlofhkhfomhdaaaDoorK2
namespace Go.Proofs.YtlofhkhfomhdaaaDoor
open Go.ChangeShapes Go.WideShapes Go.ChangeAt Go.RowKit

theorem hasInt_q (v : Value) (xs : List Int) (x : Int) {t : Bool} (ht : decide (x ∈ xs) = t) (w : World) (hl : xs.length ≤ 1048576) (hr : RowI w v xs) :
    Calls Tryd.prog 16 #[v, .int .i64 x] w fun e w' => e = .returned (.bool t) ∧ w' = w := by
  subst ht
  refine (hasInt_any v xs x w hl hr).mono ?_
  rintro e w' ⟨rfl, rfl⟩
  exact ⟨rfl, rfl⟩
theorem RowI.keepI {w w' : World} {v : Value} {xs : List Int} (h : RowI w v xs) (hb : Below w.heap.size w w') : RowI w' v xs := by
  obtain ⟨A, c, rfl, h⟩ := h
  refine ⟨A, c, rfl, fun hp => ?_⟩
  obtain ⟨g, e, hg, hc⟩ := h hp
  exact ⟨g, e, Nat.lt_of_lt_of_le hg hb.size, fun k x hk => (hb.cell (p := ⟨g, 0 + k, none⟩) hg).trans (hc k x hk)⟩
theorem RowL.at_ {w : World} {A : Option Addr} {n k : Nat} {ls : List L3} (h : RowL w A n ls) (hk : k < n) : ∃ b off l, A = some ⟨b, off, none⟩ ∧ b < w.heap.size ∧ ls[k]? = some l ∧ w.cell? ⟨b, off + k * 3, none⟩ = some (.int .i64 l.1) ∧ w.cell? ⟨b, off + k * 3 + 1, none⟩ = some (.int .i64 l.2.1) ∧ w.cell? ⟨b, off + k * 3 + 2, none⟩ = some (.int .i64 l.2.2) := by
  obtain ⟨b, off, e, hb, hc⟩ := h.2 (by omega)
  have hl : ls[k]? = some (ls[k]'(by have := h.1; omega)) := List.getElem?_eq_getElem _
  exact ⟨b, off, _, e, hb, hl, hc k _ hl⟩

set_option maxRecDepth 100000 in
set_option maxHeartbeats 1000000 in
theorem reached_walk (w : World) (A : Option Addr) (n c : Nat) (code : List Int) (hr : RowB w A n code) (hnc : n ≤ c) (hc : c ≤ 9223372036854775807) :
    Calls Tryd.prog 3 #[.slice A n c] w fun e w' => e = .returned (.bool true) ∧ Below w.heap.size w w' := by
  by_cases hlen : n ≤ 1048576
  · go_enter Tryd.func3, Tryd.ntmps3
    go_wp2_with fail
    refine (drawReached_any A n c code _ hr hnc hc).mono ?_
    rintro e w1 ⟨bs, A1, c1, ls, v, ts, bus, rfl, hrow, hls, hb0, hb9, hO, hts, a1⟩
    have hbx := below_bx w1 (.cells #[.int .i64 bs, .slice A1 ls.length c1] 25)
    have HR1 := Lib.hid (hrow.below hbx)
    have k1 := Lib.hid (IsBlk.new w1 25 #[.int .i64 bs, .slice A1 ls.length c1])
    have b1 : Below w.heap.size w (w1.alloc (.cells #[.int .i64 bs, .slice A1 ls.length c1] 25)) := a1.alloc a1.size _
    obtain ⟨A2, c2, rfl, _, hrt⟩ := hO.row
    have T1 := Lib.hid (hrt.below hbx)
    clear hrow hr hO hrt
    have h1 : ls.length ≤ 1048576 := by omega
    have h2 : ts.length ≤ 1048576 := by omega
    have hlr : (rchF bs ls ts bus).length ≤ 1048576 := Nat.le_trans (rchF_len _ _ _ _) (by decide)
    go_wp2_with fail
    refine (rch_any bs A1 ls.length c1 ls A2 ts.length c2 ts bus _ h1 HR1.out h2 T1.out).mono ?_
    rintro e w2 ⟨v2, rfl, hO2, hb2⟩
    have b2 := b1.trans (hb2.mono b1.size)
    have HR2 := Lib.hid (HR1.out.below hb2)
    have k2 := Lib.hid (k1.out.keep hb2)
    have T2 := Lib.hid (T1.out.below hb2)
    have L2 := Lib.hid hO2
    obtain ⟨A3, c3, rfl, _⟩ := hO2.sl
    clear hO2 HR1 k1 T1
    obtain ⟨p0, p1, _, _⟩ := k2.out.two
    go_wp2_with fail
    refine (specRch_any bs A1 ls.length c1 ls A2 ts.length c2 ts bus _ h1 HR2.out h2 T2.out).mono ?_
    rintro e w3 ⟨v3, rfl, hO3, hb3⟩
    have b3 := b2.trans (hb3.mono b2.size)
    have HR3 := Lib.hid (HR2.out.below hb3)
    have k3 := Lib.hid (k2.out.keep hb3)
    have T3 := Lib.hid (T2.out.below hb3)
    have L3 := Lib.hid (OwnI.keep L2.out hb3)
    have M3 := Lib.hid hO3
    clear hO3 HR2 k2 T2 L2 p0 p1
    go_wp2_with fail
    refine (sameInts_own hlr L3.out M3.out).mono ?_
    rintro e w4 ⟨rfl, hb4⟩
    have b4 := b3.trans (hb4.mono b3.size)
    have HR4 := Lib.hid (HR3.out.below hb4)
    have k4 := Lib.hid (k3.out.keep hb4)
    have T4 := Lib.hid (T3.out.below hb4)
    have L4 := Lib.hid (OwnI.keep L3.out hb4)
    clear HR3 k3 T3 L3 M3
    by_cases hz : (rchF bs ls ts bus).length = 0
    · rw [hz]
      go_wp2_with fail
      refine (alive_any _).mono ?_
      rintro e w5 ⟨rfl, hb5⟩
      go_wp2
      go_ret
      exact ⟨rfl, b4.trans (hb5.mono b4.size)⟩
    · obtain ⟨hs, hu0, hu1⟩ := rchF_some (show 0 < (rchF bs ls ts bus).length by omega)
      have HSame := Lib.hid (fun z hz => rchF_same hs hu0 hu1 (z := z) hz)
      have HLine := Lib.hid (fun k l h1 h2 => rchF_line hs hu0 hu1 (k := k) (l := l) h1 h2)
      have HSelf := Lib.hid (rchF_self hs hu0 hu1)
      have HAsc := Lib.hid (rchF_asc bs ls ts bus)
      have HTL := Lib.hid (show ts.length = ls.length by simp only [stOk, Bool.and_eq_true, decide_eq_true_eq] at hs; exact hs.2)
      have hz0 : (((rchF bs ls ts bus).length : Int) == 0) = false := by rw [beq_eq_false_iff_ne]; omega
      clear hs hz
      generalize rchF bs ls ts bus = zs at *
      go_wp2_with fail
      go_loopw [7] (fun i wr => ∃ k : Nat, k ≤ zs.length ∧ i = .int .i64 k ∧ Below w4.heap.size w4 wr) (fun i _ => zs.length - (intOf i).toNat)
      case atStart => exact ⟨0, by omega, rfl, Below.refl _ _⟩
      case round =>
        obtain ⟨k, hk, rfl, hbel⟩ := hrel
        have k5 := Lib.hid (k4.out.keep hbel)
        have HR5 := Lib.hid (HR4.out.below hbel)
        have T5 := Lib.hid (T4.out.below hbel)
        have L5 := Lib.hid (OwnI.keep L4.out hbel)
        by_cases hlt : k < zs.length
        · obtain ⟨b, off, z, hA3, hbz, hkz, g0⟩ := L5.out.rowZ.at_ hlt
          subst hA3
          have HZ := Lib.hid (HSame.out z (List.mem_of_getElem? hkz))
          obtain ⟨p0, p1, _, _⟩ := k5.out.two
          have q0 : (0 : Int) ≤ (k : Int) := by omega
          have q1 : (k : Int) < (zs.length : Int) := by omega
          clear hkz hbz
          go_upto_region 12 with fail
          have HRD := Lib.hid (show RowL wr.drew A1 ls.length ls from HR5.out)
          have TD := Lib.hid (show RowT wr.drew A2 ts.length ts from T5.out)
          have LD := Lib.hid (show OwnI 3 wr.drew _ _ zs from L5.out)
          go_region_with (first
            | (go_at_call 13; refine (sameInts_own hlr RZ.out L6.out).mono ?_; rintro e w7 ⟨rfl, hb7⟩)
            | (go_at_call 12; refine (rch_any bs A1 ls.length c1 ls A2 ts.length c2 ts z _ h1 HRD.out h2 TD.out).mono ?_; rintro e w6 ⟨v6, rfl, hO6, hb6⟩; rw [HZ.out] at hO6; have RZ := Lib.hid hO6; clear hO6; have L6 := Lib.hid (OwnI.keep LD.out hb6)))
          all_goals
            have hb6' : Below w4.heap.size w4 w7 := (hbel.drew.trans (hb6.mono hbel.drew.size)).trans (hb7.mono (hbel.drew.trans (hb6.mono hbel.drew.size)).size)
            go_wp2
            go_roundw
            case rel => exact ⟨k + 1, by omega, by go_num, hb6'⟩
            case measure => simp [intOf]; omega
        · have R5 := Lib.hid L5.out.row
          have Z5 := Lib.hid L5.out.rowZ
          have b5 := b4.trans (hbel.mono b4.size)
          clear L5 L4 HR4 k4 T4 hb4
          obtain ⟨w5, hw5⟩ : ∃ w5, w5 = wr := ⟨_, rfl⟩
          subst hw5
          go_wp2_with fail
          go_loopw [8] (fun i wx => ∃ k : Nat, k ≤ ls.length ∧ i = .int .i64 k ∧ Below w5.heap.size w5 wx) (fun i _ => ls.length - (intOf i).toNat)
          case atStart => exact ⟨0, by omega, rfl, Below.refl _ _⟩
          case round =>
            obtain ⟨j, hj, rfl, hb6⟩ := hrel
            have R6 := Lib.hid (R5.out.keepI hb6)
            obtain ⟨p0, p1, _, _⟩ := (k5.out.keep hb6).two
            by_cases hjl : j < ls.length
            · obtain ⟨bl, ol, l, hAl, hbl, hkl, g0, g1, _⟩ := (HR5.out.below hb6).at_ hjl
              obtain ⟨bt, ot, t, hAt, hbt, hkt, g3⟩ := (T5.out.below hb6).at_ (show j < ts.length by rw [HTL.out]; exact hjl)
              have q0 : (0 : Int) ≤ (j : Int) := by omega
              have q1 : (j : Int) < (ls.length : Int) := by omega
              have q2 : (j : Int) < (ts.length : Int) := by rw [HTL.out]; exact q1
              subst hAl hAt
              cases t
              · clear hkl hkt hbl hbt
                go_wp2
                go_quiet (fail)
                rename_i nq
                go_wp2
                go_roundw
                case rel => exact ⟨j + 1, by omega, by go_num, below_drewN hb6 nq⟩
                case measure => simp [intOf]; omega
              · have he := HLine.out j l hkl hkt
                obtain ⟨t', ht⟩ : ∃ t', decide (l.1 ∈ zs) = t' := ⟨_, rfl⟩
                rw [ht] at he
                have hb := he.symm
                obtain ⟨la, lb, lm⟩ := l
                simp only at g0 g1 ht hb
                clear hkl hkt hbl hbt he
                cases t' <;>
                · go_wp2
                  go_quiet ((go_at_call 16; exact Calls.quiet_of_same (hasInt_q _ zs _ (by assumption) _ hlr R6.out)))
                  rename_i nq
                  go_wp2
                  go_roundw
                  case rel => exact ⟨j + 1, by omega, by go_num, below_drewN hb6 nq⟩
                  case measure => simp [intOf]; omega
            · have Z6 := Lib.hid (Z5.out.below hb6)
              have b6 := b5.trans (hb6.mono b5.size)
              have hself : decide (bus ∈ zs) = true := by rw [decide_eq_true_eq]; exact HSelf.out
              have HSF := Lib.hid hself
              clear hself
              go_wp2_with fail
              refine (hasInt_q _ zs bus HSF.out _ hlr R6.out).mono ?_
              rintro e w7 ⟨rfl, rfl⟩
              go_wp2_with fail
              refine (ascend_any A3 zs.length c3 zs _ hlr Z6.out HAsc.out).mono ?_
              rintro e w8 ⟨rfl, hb8⟩
              go_wp2
              go_ret
              exact ⟨rfl, b6.trans (hb8.mono b6.size)⟩
  · have hl2 : (1048576 : Int) < (n : Int) := by omega
    go_enter Tryd.func3, Tryd.ntmps3
    go_wp2
    go_ret
    exact ⟨rfl, Below.refl _ _⟩
end Go.Proofs.YtlofhkhfomhdaaaDoor
