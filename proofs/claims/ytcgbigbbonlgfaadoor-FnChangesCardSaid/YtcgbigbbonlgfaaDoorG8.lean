/- FnChanges: the walk. -/
import Derived.Test.YtcgbigbbonlgfaaDoorD3
import Derived.Test.YtcgbigbbonlgfaaDoorG7
import Derived.Test.YtcgbigbbonlgfaaDoorG3
import Derived.Test.YtcgbigbbonlgfaaDoorB7
import Derived.Test.YtcgbigbbonlgfaaDoorM2
namespace Go.Proofs.YtcgbigbbonlgfaaDoor
open Go.ChangeShapes Go.WideShapes Go.ChangeAt Go.RowKit

set_option maxHeartbeats 1000000 in
theorem changes_walk (w : World) (A : Option Addr) (n c : Nat) (code : List Int) (hr : RowB w A n code) (hnc : n ≤ c) (hc : c ≤ 9223372036854775807) :
    Calls Tryd.prog 7 #[.slice A n c] w fun e w' => e = .returned (.bool true) ∧ Below w.heap.size w w' := by
  by_cases hlen : n ≤ 1048576
  · go_enter Tryd.func7, Tryd.ntmps7
    go_wp2_with fail
    refine (drawChanges_any A n c code _ hr hnc hc).mono ?_
    rintro e w1 ⟨v, ts, v', us, rfl, hO, hts, hO', hus, a1⟩
    have O1 := Lib.hid hO
    have P1 := Lib.hid hO'
    obtain ⟨A1, c1, rfl, _, hrow⟩ := hO.row
    obtain ⟨A2, c2, rfl, _, hrow'⟩ := hO'.row
    have R1 := Lib.hid hrow
    have Q1 := Lib.hid hrow'
    clear hO hO' hrow hrow' hr
    have h1 : ts.length ≤ 1048576 := by omega
    have h2 : us.length ≤ 1048576 := by omega
    have hcl : (chF ts us).length ≤ 1048576 := Nat.le_trans (chF_len _ _) h1
    go_wp2_with fail
    refine (changes_any A1 ts.length c1 ts A2 us.length c2 us _ h1 R1.out h2 Q1.out).mono ?_
    rintro e w2 ⟨v3, rfl, hO3, hb2⟩
    have a2 := a1.trans (hb2.mono a1.size)
    have O2 := Lib.hid (O1.out.keep hb2)
    have P2 := Lib.hid (P1.out.keep hb2)
    have R2 := Lib.hid (R1.out.below hb2)
    have Q2 := Lib.hid (Q1.out.below hb2)
    have L2 := Lib.hid hO3
    obtain ⟨A3, c3, rfl, hz⟩ := hO3.form
    clear hO3 hz O1 P1 R1 Q1
    go_wp2_with fail
    refine (specChanges_any A1 ts.length c1 ts A2 us.length c2 us _ h1 R2.out h2 Q2.out).mono ?_
    rintro e w3 ⟨v4, rfl, hO4, hb3⟩
    have a3 := a2.trans (hb3.mono a2.size)
    have O3 := Lib.hid (O2.out.keep hb3)
    have P3 := Lib.hid (P2.out.keep hb3)
    have R3 := Lib.hid (R2.out.below hb3)
    have Q3 := Lib.hid (Q2.out.below hb3)
    have L3 := Lib.hid (OwnI.keep L2.out hb3)
    have M3 := Lib.hid hO4
    clear hO4 O2 P2 R2 Q2 L2
    go_wp2_with fail
    refine (sameInts_own hcl L3.out M3.out).mono ?_
    rintro e w4 ⟨rfl, hb4⟩
    have a4 := a3.trans (hb4.mono a3.size)
    have O4 := Lib.hid (O3.out.keep hb4)
    have P4 := Lib.hid (P3.out.keep hb4)
    have R4 := Lib.hid (R3.out.below hb4)
    have Q4 := Lib.hid (Q3.out.below hb4)
    have L4 := Lib.hid (OwnI.keep L3.out hb4)
    clear O3 P3 R3 Q3 L3 M3
    by_cases hl : ts.length = us.length
    · have HC := Lib.hid (chAll_chF hl)
      have HB := Lib.hid (show caB ts (chF ts us) = true by rw [caB, HC.out]; rfl)
      have HF := Lib.hid (show caF ts (chF ts us) = us by rw [caF, HC.out]; rfl)
      have HM := Lib.hid (chF_comm ts us)
      have HA := Lib.hid (fun k x y => asc_at (chF_asc ts us) (k := k) (x := x) (y := y))
      have ht : ((ts.length : Int) != (us.length : Int)) = false := by simp; omega
      have ht2 : ((ts.length : Int) == (us.length : Int)) = true := by simp; omega
      clear hl
      go_wp2_with fail
      refine (changeAll_any A1 ts.length c1 ts A3 (chF ts us).length c3 (chF ts us) _ h1 R4.out hcl L4.out.rowZ).mono ?_
      rintro e w5 ⟨v5, rfl, hO5, hb5⟩
      rw [HB.out]
      rw [HF.out] at hO5
      have a5 := a4.trans (hb5.mono a4.size)
      have X5 := Lib.hid hO5
      have P5 := Lib.hid (P4.out.keep hb5)
      have R5 := Lib.hid (R4.out.below hb5)
      have Q5 := Lib.hid (Q4.out.below hb5)
      have L5 := Lib.hid (OwnI.keep L4.out hb5)
      clear hO5 O4 P4 R4 Q4 L4
      go_wp2_with fail
      refine (sameBools_own h2 X5.out P5.out).mono ?_
      rintro e w6 ⟨rfl, hb6⟩
      have a6 := a5.trans (hb6.mono a5.size)
      have R6 := Lib.hid (R5.out.below hb6)
      have Q6 := Lib.hid (Q5.out.below hb6)
      have L6 := Lib.hid (OwnI.keep L5.out hb6)
      go_wp2_with fail
      refine (ascend_any A3 (chF ts us).length c3 (chF ts us) _ hcl L6.out.rowZ HA.out).mono ?_
      rintro e w7 ⟨rfl, hb7⟩
      have a7 := a6.trans (hb7.mono a6.size)
      have R7 := Lib.hid (R6.out.below hb7)
      have Q7 := Lib.hid (Q6.out.below hb7)
      have L7 := Lib.hid (OwnI.keep L6.out hb7)
      go_wp2_with fail
      refine (changes_any A2 us.length c2 us A1 ts.length c1 ts _ h2 Q7.out h1 R7.out).mono ?_
      rintro e w8 ⟨v8, rfl, hO8, hb8⟩
      have a8 := a7.trans (hb8.mono a7.size)
      have L8 := Lib.hid (OwnI.keep L7.out hb8)
      rw [HM.out] at hO8
      have M8 := Lib.hid hO8
      clear hO8
      go_wp2_with fail
      refine (sameInts_own hcl M8.out L8.out).mono ?_
      rintro e w9 ⟨rfl, hb9⟩
      go_wp2
      go_ret
      exact ⟨rfl, a8.trans (hb9.mono a8.size)⟩
    · have HE := Lib.hid (show (chF ts us).length = 0 by rw [chF, if_neg hl]; rfl)
      have ht : ((ts.length : Int) != (us.length : Int)) = true := by simp; omega
      have ht2 : ((ts.length : Int) == (us.length : Int)) = false := by simp; omega
      clear hl hcl
      rw [HE.out]
      go_wp2_with fail
      refine (alive_any _).mono ?_
      rintro e w5 ⟨rfl, hb5⟩
      go_wp2
      go_ret
      exact ⟨rfl, a4.trans (hb5.mono a4.size)⟩
  · have hl2 : (1048576 : Int) < (n : Int) := by omega
    go_enter Tryd.func7, Tryd.ntmps7
    go_wp2
    go_ret
    exact ⟨rfl, Below.refl _ _⟩
end Go.Proofs.YtcgbigbbonlgfaaDoor
