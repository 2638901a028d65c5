/- FnWorstBus: the walk. -/
import Derived.Test.YtpmkeagdoehbhaaDoorX9
namespace Go.Proofs.YtpmkeagdoehbhaaDoor
open Go.ChangeShapes Go.WideShapes Go.ChangeAt Go.RowKit

set_option maxRecDepth 100000 in
set_option maxHeartbeats 8000000 in
theorem worstBusL_walk (w : World) (A : Option Addr) (n c : Nat) (code : List Int) (hr : RowB w A n code) (hnc : n ≤ c) (hc : c ≤ 9223372036854775807) :
    Calls Tryd.prog 4 #[.slice A n c] w fun e w' => e = .returned (.bool true) ∧ Below w.heap.size w w' := by
  by_cases hlen : n ≤ 1048576
  · go_enter Tryd.func4, Tryd.ntmps4
    go_wp2_with fail
    refine (drawWorstBus_any A n c code _ hr hnc hc).mono ?_
    rintro e w1 ⟨bs, A1, c1, ls, A2, c2, ts, A3, c3, us, A4, c4, os, rfl, hrows⟩
    obtain ⟨hs1, h1, h2, h3, h4⟩ := lawSo_start (c1 := c1) hrows
    have S1 := Lib.hid hs1
    clear hs1 hr hrows
    go_wp2_with fail
    refine (worstBus_any bs A1 ls.length c1 ls A2 ts.length c2 ts A3 us.length c3 us A4 os.length c4 os _ h1 S1.out.row h2 S1.out.tr h3 S1.out.bu h4 S1.out.oh).mono ?_
    rintro e w2 ⟨rfl, hb2⟩
    have S2 := Lib.hid (S1.out.next hb2)
    obtain ⟨p0, p1, _, _⟩ := S2.out.net.two
    clear S1 hb2
    generalize w1.heap.size = X at *
    go_wp2_with fail
    refine (specWorstBus_any bs A1 ls.length c1 ls A2 ts.length c2 ts A3 us.length c3 us A4 os.length c4 os _ h1 S2.out.row h2 S2.out.tr h3 S2.out.bu h4 S2.out.oh).mono ?_
    rintro e w3 ⟨rfl, hb3⟩
    have S3 := Lib.hid (S2.out.next hb3)
    clear S2 hb3 p0 p1
    obtain ⟨p0, p1, _, _⟩ := S3.out.net.two
    by_cases hneg : wrsF bs ls ts us os < 0
    · rw [wrs_neg hneg]
      clear hneg
      go_wp2_with fail
      refine (alive_any _).mono ?_
      rintro e w6 ⟨rfl, hb6⟩
      go_wp2
      go_ret
      exact ⟨rfl, S3.out.bel.trans (hb6.mono S3.out.bel.size)⟩
    · obtain ⟨j, nb, rfl, hx, hj, hnb, _, hmo, hle, hlt2⟩ := wrs_pos hneg
      rw [hx]
      have HLE := Lib.hid hle
      have HLT := Lib.hid hlt2
      have jj0 : ¬ (j : Int) < 0 := by omega
      clear hneg hx hle hlt2
      go_wp2_with fail
      refine (dropAt_any nb A1 ls.length c1 ls A2 ts.length c2 ts A3 us.length c3 us A4 os.length c4 os j _ h1 S3.out.row h2 S3.out.tr h3 S3.out.bu h4 S3.out.oh).mono ?_
      rintro e w4 ⟨rfl, hb4⟩
      have S4 := Lib.hid (S3.out.next hb4)
      clear S3 hb4 p0 p1
      generalize drpF (nb : Int) ls ts us os (j : Int) = M at *
      obtain ⟨p0, p1, _, _⟩ := S4.out.net.two
      go_wp2
      go_loopw [9] (fun i wr => ∃ k : Nat, k ≤ nb ∧ i = .int .i64 k ∧ Below w4.heap.size w4 wr) (fun i _ => nb - (intOf i).toNat)
      case atStart => exact ⟨0, by omega, rfl, Below.refl _ _⟩
      case round =>
        obtain ⟨k, hk, rfl, hbel⟩ := hrel
        have S5 := Lib.hid (S4.out.next hbel)
        clear p0 p1
        obtain ⟨p0, p1, _, _⟩ := S5.out.net.two
        by_cases hlt : k < nb
        · have hyM := HLE.out k hlt
          have HYL := Lib.hid (HLT.out k)
          go_wp2_with fail
          refine (dropAt_any nb A1 ls.length c1 ls A2 ts.length c2 ts A3 us.length c3 us A4 os.length c4 os k _ h1 S5.out.row h2 S5.out.tr h3 S5.out.bu h4 S5.out.oh).mono ?_
          rintro e w6 ⟨rfl, hb6⟩
          generalize drpF (nb : Int) ls ts us os (k : Int) = y at *
          have hgt : ¬ M < y := by omega
          by_cases hkj : k < j
          · have hne : (y == M) = false := by rw [beq_eq_false_iff_ne]; have := HYL.out hkj; omega
            have hkj2 : (k : Int) < (j : Int) := by omega
            clear p0 p1
            go_wp2
            go_roundw
            case rel => exact ⟨k + 1, by omega, by go_num, hbel.trans (hb6.mono hbel.size)⟩
            case measure => simp [intOf]; omega
          · have hkj2 : ¬ (k : Int) < (j : Int) := by omega
            clear p0 p1
            go_wp2
            go_roundw
            case rel => exact ⟨k + 1, by omega, by go_num, hbel.trans (hb6.mono hbel.size)⟩
            case measure => simp [intOf]; omega
        · have b9 := S5.out.bel
          go_wp2
          go_ret
          exact ⟨rfl, b9⟩
  · have hl2 : (1048576 : Int) < (n : Int) := by omega
    go_enter Tryd.func4, Tryd.ntmps4
    go_wp2
    go_ret
    exact ⟨rfl, Below.refl _ _⟩
end Go.Proofs.YtpmkeagdoehbhaaDoor
