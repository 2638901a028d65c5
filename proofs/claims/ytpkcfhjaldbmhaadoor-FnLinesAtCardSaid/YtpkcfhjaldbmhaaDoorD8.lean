/- FnOtherEnd: the walk. -/
import Derived.Test.YtpkcfhjaldbmhaaDoorD7
namespace Go.Proofs.YtpkcfhjaldbmhaaDoor
open Go.ChangeShapes Go.WideShapes Go.ChangeAt Go.RowKit

theorem linesAtF_le (bs : Int) (ls : List L3) (bus : Int) : (linesAtF bs ls bus).length ≤ ls.length := by
  rw [linesAtF]; split
  · exact atTo_len _ _ _
  · simp

set_option maxHeartbeats 1000000 in
theorem otherEnd_walk (A : Option Addr) (n c : Nat) (code : List Int) (w : World) (hr : RowB w A n code) (hnc : n ≤ c) (hc : c ≤ 9223372036854775807) :
    Calls Tryd.prog 5 #[.slice A n c] w fun e w' => e = .returned (.bool true) ∧ Below w.heap.size w w' := by
  by_cases hlen : n ≤ 1048576
  · go_enter Tryd.func5, Tryd.ntmps5
    go_wp2_with fail
    refine (drawOtherEnd_any A n c code _ hr hnc hc).mono ?_
    rintro e w1 ⟨bs, A1, c1, ls, line, bus, rfl, hrow, hl, a1⟩
    have HR1 := Lib.hid (hrow.below (below_bx w1 (.cells #[.int .i64 bs, .slice A1 ls.length c1] 25)))
    have k1 := Lib.hid (IsBlk.new w1 25 #[.int .i64 bs, .slice A1 ls.length c1])
    have b1 : Below w.heap.size w (w1.alloc (.cells #[.int .i64 bs, .slice A1 ls.length c1] 25)) := a1.alloc a1.size _
    have HL := Lib.hid (fun bus => Nat.le_trans (linesAtF_le bs ls bus) (Nat.le_trans hl (by decide : 12 ≤ 1048576)))
    clear hrow hr
    generalize hlen' : ls.length = m at *
    clear hlen'
    rcases other_cases bs ls line bus with ⟨hB, hN⟩ | ⟨x, hB, hx0, hxb, hx2, hm1, hm2⟩
    · have HB := Lib.hid hB
      have HN := Lib.hid (show decide (line ∈ linesAtF bs ls bus) = false by simpa using hN)
      clear hB hN
      go_wp2_with fail
      refine (otherEnd_any bs A1 m c1 ls line bus _ (by omega) HR1.out).mono ?_
      rintro e w2 ⟨rfl, hb2⟩
      rw [HB.out]
      have b2 : Below w.heap.size w w2 := b1.trans (hb2.mono b1.size)
      have HR2 := Lib.hid (HR1.out.below hb2)
      have k2 := Lib.hid (k1.out.keep hb2)
      obtain ⟨p0, p1, _, _⟩ := k2.out.two
      clear b1
      go_wp2_with fail
      refine (specOtherEnd_any bs A1 m c1 ls line bus _ (by omega) HR2.out).mono ?_
      rintro e w3 ⟨rfl, hb3⟩
      rw [HB.out]
      have b3 : Below w.heap.size w w3 := b2.trans (hb3.mono b2.size)
      have HR3 := Lib.hid (HR2.out.below hb3)
      have k3 := Lib.hid (k2.out.keep hb3)
      clear p0 p1
      obtain ⟨p0, p1, _, _⟩ := k3.out.two
      go_wp2_with fail
      refine (linesAt_any bs A1 m c1 ls bus _ (by omega) HR3.out).mono ?_
      rintro e w4 ⟨v, rfl, hO, hb4⟩
      have O4 := Lib.hid hO.row
      clear hO
      have b4 : Below w.heap.size w w4 := b3.trans (hb4.mono b3.size)
      go_wp2_with fail
      refine (hasInt_any v _ line _ (HL.out bus) O4.out).mono ?_
      rintro e w4' ⟨rfl, rfl⟩
      rw [HN.out]
      go_wp2_with fail
      refine (alive_any _).mono ?_
      rintro e w5 ⟨rfl, hb5⟩
      go_wp2
      go_ret
      exact ⟨rfl, b4.trans (hb5.mono b4.size)⟩
    · have HB := Lib.hid hB
      have HC := Lib.hid hx2
      have HM1 := Lib.hid (show decide (line ∈ linesAtF bs ls x) = true by simpa using hm1)
      have HM2 := Lib.hid (show decide (line ∈ linesAtF bs ls bus) = true by simpa using hm2)
      clear hB hx2 hm1 hm2
      have hx3 : (x == bus) = false := by simpa using hxb
      have hx4 : (x != bus) = true := by simpa using hxb
      go_wp2_with fail
      refine (otherEnd_any bs A1 m c1 ls line bus _ (by omega) HR1.out).mono ?_
      rintro e w2 ⟨rfl, hb2⟩
      rw [HB.out]
      have b2 : Below w.heap.size w w2 := b1.trans (hb2.mono b1.size)
      have HR2 := Lib.hid (HR1.out.below hb2)
      have k2 := Lib.hid (k1.out.keep hb2)
      obtain ⟨p0, p1, _, _⟩ := k2.out.two
      clear b1
      go_wp2_with fail
      refine (specOtherEnd_any bs A1 m c1 ls line bus _ (by omega) HR2.out).mono ?_
      rintro e w3 ⟨rfl, hb3⟩
      rw [HB.out]
      have b3 : Below w.heap.size w w3 := b2.trans (hb3.mono b2.size)
      have HR3 := Lib.hid (HR2.out.below hb3)
      have k3 := Lib.hid (k2.out.keep hb3)
      clear p0 p1
      obtain ⟨p0, p1, _, _⟩ := k3.out.two
      have hk0 : ¬ (x < 0) := by omega
      go_wp2_with fail
      refine (otherEnd_any bs A1 m c1 ls line x _ (by omega) HR3.out).mono ?_
      rintro e w4 ⟨rfl, hb4⟩
      rw [HC.out]
      have b4 : Below w.heap.size w w4 := b3.trans (hb4.mono b3.size)
      have HR4 := Lib.hid (HR3.out.below hb4)
      have k4 := Lib.hid (k3.out.keep hb4)
      clear p0 p1
      obtain ⟨p0, p1, _, _⟩ := k4.out.two
      go_wp2_with fail
      refine (linesAt_any bs A1 m c1 ls x _ (by omega) HR4.out).mono ?_
      rintro e w5 ⟨v, rfl, hO, hb5⟩
      have O5 := Lib.hid hO.row
      clear hO
      have b5 : Below w.heap.size w w5 := b4.trans (hb5.mono b4.size)
      have HR5 := Lib.hid (HR4.out.below hb5)
      have k5 := Lib.hid (k4.out.keep hb5)
      clear p0 p1
      obtain ⟨p0, p1, _, _⟩ := k5.out.two
      go_wp2_with fail
      refine (hasInt_any v _ line _ (HL.out x) O5.out).mono ?_
      rintro e w5' ⟨rfl, rfl⟩
      rw [HM1.out]
      go_wp2_with fail
      refine (linesAt_any bs A1 m c1 ls bus _ (by omega) HR5.out).mono ?_
      rintro e w6 ⟨v2, rfl, hO, hb6⟩
      have O6 := Lib.hid hO.row
      clear hO
      have b6 : Below w.heap.size w w6 := b5.trans (hb6.mono b5.size)
      go_wp2_with fail
      refine (hasInt_any v2 _ line _ (HL.out bus) O6.out).mono ?_
      rintro e w6' ⟨rfl, rfl⟩
      rw [HM2.out]
      go_wp2
      go_ret
      exact ⟨rfl, b6⟩
  · have hl2 : (1048576 : Int) < (n : Int) := by omega
    go_enter Tryd.func5, Tryd.ntmps5
    go_wp2
    go_ret
    exact ⟨rfl, Below.refl _ _⟩
end Go.Proofs.YtpkcfhjaldbmhaaDoor
