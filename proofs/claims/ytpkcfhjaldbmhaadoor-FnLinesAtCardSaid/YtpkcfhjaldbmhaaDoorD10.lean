/- FnLinesAt: the walk. -/
import Derived.Test.YtpkcfhjaldbmhaaDoorD9
namespace Go.Proofs.YtpkcfhjaldbmhaaDoor
open Go.ChangeShapes Go.WideShapes Go.ChangeAt Go.RowKit

set_option maxHeartbeats 2000000 in
theorem linesAt_walk (A : Option Addr) (n c : Nat) (code : List Int) (w : World) (hr : RowB w A n code) (hnc : n ≤ c) (hc : c ≤ 9223372036854775807) :
    Calls Tryd.prog 4 #[.slice A n c] w fun e w' => e = .returned (.bool true) ∧ Below w.heap.size w w' := by
  by_cases hlen : n ≤ 1048576
  · go_enter Tryd.func4, Tryd.ntmps4
    go_wp2_with fail
    refine (drawLinesAt_any A n c code _ hr hnc hc).mono ?_
    rintro e w1 ⟨bs, A1, c1, ls, bus, rfl, hrow, hl, a1⟩
    have HR1 := Lib.hid (hrow.below (below_bx w1 (.cells #[.int .i64 bs, .slice A1 ls.length c1] 25)))
    have k1 := Lib.hid (IsBlk.new w1 25 #[.int .i64 bs, .slice A1 ls.length c1])
    have b1 : Below w.heap.size w (w1.alloc (.cells #[.int .i64 bs, .slice A1 ls.length c1] 25)) := a1.alloc a1.size _
    have HL := Lib.hid (fun bus => Nat.le_trans (linesAtF_le bs ls bus) (Nat.le_trans hl (by decide : 12 ≤ 1048576)))
    clear hrow hr
    have HT := Lib.hid (fun k => (show sumTo ls ls.length k ≤ 12 * k from by
      induction k with
      | zero => simp [sumTo]
      | succ k ih => rw [sumTo]; have := atTo_len ls (k : Int) ls.length; omega))
    generalize hlen' : ls.length = m at *
    have HM := Lib.hid hlen'
    clear hlen'
    go_wp2_with fail
    refine (linesAt_any bs A1 m c1 ls bus _ (by omega) HR1.out).mono ?_
    rintro e w2 ⟨v, rfl, hO, hb2⟩
    have O2 := Lib.hid hO
    clear hO
    have b2 : Below w.heap.size w w2 := b1.trans (hb2.mono b1.size)
    have HR2 := Lib.hid (HR1.out.below hb2)
    have k2 := Lib.hid (k1.out.keep hb2)
    obtain ⟨p0, p1, _, _⟩ := k2.out.two
    clear b1
    go_wp2_with fail
    refine (specLinesAt_any bs A1 m c1 ls bus _ (by omega) HR2.out).mono ?_
    rintro e w3 ⟨v2, rfl, hO, hb3⟩
    have O3 := Lib.hid hO.row
    clear hO
    have b3 : Below w.heap.size w w3 := b2.trans (hb3.mono b2.size)
    have HR3 := Lib.hid (HR2.out.below hb3)
    have k3 := Lib.hid (k2.out.keep hb3)
    have P3 := Lib.hid (O2.out.keep hb3)
    clear p0 p1
    go_wp2_with fail
    refine (sameInts_any v v2 _ _ (HL.out bus) P3.out.row O3.out).mono ?_
    rintro e w4 ⟨rfl, hb4⟩
    have b4 : Below w.heap.size w w4 := b3.trans (hb4.mono b3.size)
    have HR4 := Lib.hid (HR3.out.below hb4)
    have k4 := Lib.hid (k3.out.keep hb4)
    have P4 := Lib.hid (P3.out.keep hb4)
    obtain ⟨p0, p1, _, _⟩ := k4.out.two
    go_wp2_with fail
    refine (specNetValid_any bs A1 m c1 ls _ (by omega) HR4.out).mono ?_
    rintro e w5 ⟨rfl, hb5⟩
    have b5 : Below w.heap.size w w5 := b4.trans (hb5.mono b4.size)
    have HR5 := Lib.hid (HR4.out.below hb5)
    have k5 := Lib.hid (k4.out.keep hb5)
    have P5 := Lib.hid (P4.out.keep hb5)
    clear p0 p1
    by_cases hv : netOk bs ls = true
    · have HV := Lib.hid hv
      have hbs := netOk_len hv
      have hbs0 := hbs.1
      have hbs1 := hbs.2.1
      have HSum := Lib.hid (sumTo_all hv m (by rw [HM.out]; exact Nat.le_refl _))
      have HAsc := Lib.hid (show Asc (linesAtF bs ls bus) by rw [linesAtF, if_pos hv]; exact atTo_asc _ _ _)
      have HLF := Lib.hid (fun j : Int => (show linesAtF bs ls j = atTo ls j m by rw [linesAtF, if_pos hv, HM.out]))
      rw [hv]
      clear hv hbs
      obtain ⟨p0, p1, _, _⟩ := k5.out.two
      obtain ⟨B, hB⟩ : ∃ B : Nat, bs = (B : Int) := ⟨bs.toNat, by omega⟩
      subst hB
      go_wp2_with fail
      go_loopw [6, 7] (fun s i wr => ∃ k : Nat, k ≤ B ∧ i = .int .i64 k ∧ s = .int .i64 (sumTo ls m k : Nat) ∧ Below w.heap.size w wr ∧ RowL wr A1 m ls ∧ IsBlk wr w1.heap.size 25 #[.int .i64 (B : Int), .slice A1 m c1] ∧ Below w5.heap.size w5 wr) (fun _ i _ => B - (intOf i).toNat)
      case atStart => exact ⟨0, by omega, rfl, rfl, b5, HR5.out, k5.out, Below.refl _ _⟩
      case round =>
        obtain ⟨k, hk, rfl, rfl, hbel, hrow, hblk, hbel5⟩ := hrel
        have HR6 := Lib.hid hrow
        have k6 := Lib.hid hblk
        clear hrow hblk p0 p1
        obtain ⟨p0, p1, _, _⟩ := k6.out.two
        have hs := HT.out k
        by_cases hlt : k < B
        · have ht := atTo_len ls (k : Int) m
          go_wp2_with fail
          refine (linesAt_any (B : Int) A1 m c1 ls k _ (by omega) HR6.out).mono ?_
          rintro e w6 ⟨v6, rfl, hO, hb6⟩
          obtain ⟨A6, c6, rfl, _⟩ := hO.row
          rw [HLF.out k]
          clear hO
          have E1 := Lib.hid (show (sumTo ls m (k + 1) : Nat) = sumTo ls m k + (atTo ls (k : Int) m).length from rfl)
          generalize hq : (atTo ls (k : Int) m).length = q at *
          clear hq
          generalize hp : sumTo ls m k = sk at *
          clear hp
          go_wp2
          go_roundw
          case rel => exact ⟨k + 1, by omega, by go_num, by rw [E1.out]; go_num, hbel.trans (hb6.mono hbel.size), HR6.out.below hb6, k6.out.keep hb6, hbel5.trans (hb6.mono hbel5.size)⟩
          case measure => simp [intOf]; omega
        · obtain rfl : k = B := by omega
          have HSum' := Lib.hid (show (sumTo ls m k : Nat) = 2 * m from by have := HSum.out; rwa [Int.toNat_natCast] at this)
          rw [HSum'.out]
          have P6 := Lib.hid (P5.out.keep hbel5)
          have hm12 : m ≤ 12 := hl
          go_wp2_with fail
          refine (ascend_any v _ _ (HL.out bus) P6.out.row HAsc.out).mono ?_
          rintro e w7 ⟨rfl, hb7⟩
          go_wp2
          go_ret
          exact ⟨rfl, hbel.trans (hb7.mono hbel.size)⟩
    · rw [Bool.not_eq_true] at hv
      have HLF := Lib.hid (show linesAtF bs ls bus = [] by rw [linesAtF, if_neg (by rw [hv]; simp)])
      rw [hv]
      clear hv
      obtain ⟨A6, c6, e6, _⟩ := P5.out.row
      rw [HLF.out] at e6
      subst e6
      go_wp2_with fail
      refine (alive_any _).mono ?_
      rintro e w6 ⟨rfl, hb6⟩
      go_wp2
      go_ret
      exact ⟨rfl, b5.trans (hb6.mono b5.size)⟩
  · have hl2 : (1048576 : Int) < (n : Int) := by omega
    go_enter Tryd.func4, Tryd.ntmps4
    go_wp2
    go_ret
    exact ⟨rfl, Below.refl _ _⟩
end Go.Proofs.YtpkcfhjaldbmhaaDoor
