/- FnStateNumber and FnStateOf: the walks. -/
import Derived.Test.YtcgbigbbonlgfaaDoorD3
import Derived.Test.YtcgbigbbonlgfaaDoorG2
import Derived.Test.YtcgbigbbonlgfaaDoorG3
import Derived.Test.YtcgbigbbonlgfaaDoorB4
namespace Go.Proofs.YtcgbigbbonlgfaaDoor
open Go.ChangeShapes Go.WideShapes Go.ChangeAt Go.RowKit

theorem stOf_num {ts : List Bool} (h : ts.length ≤ 10) : stOfB (numF ts) (ts.length : Int) = true ∧ stOfF (numF ts) (ts.length : Int) = ts := by
  have hb := numF_bd ts
  have e : numF ts = ((numF ts).toNat : Int) := by omega
  have := stOf_in (m := (numF ts).toNat) h (by rw [← e]; exact hb.2)
  rw [← e] at this
  exact ⟨this.1, by rw [this.2, bitsF_numF]⟩

set_option maxHeartbeats 1000000 in
theorem stateNumber_walk (w : World) (A : Option Addr) (n c : Nat) (code : List Int) (hr : RowB w A n code) (hnc : n ≤ c) (hc : c ≤ 9223372036854775807) :
    Calls Tryd.prog 4 #[.slice A n c] w fun e w' => e = .returned (.bool true) ∧ Below w.heap.size w w' := by
  by_cases hlen : n ≤ 1048576
  · go_enter Tryd.func4, Tryd.ntmps4
    go_wp2_with fail
    refine (drawStateNumber_any A n c code _ hr hnc hc).mono ?_
    rintro e w1 ⟨v, ts, rfl, hO, hts, a1⟩
    have O1 := Lib.hid hO
    obtain ⟨A1, c1, rfl, _, hrow⟩ := hO.row
    have R1 := Lib.hid hrow
    clear hO hrow hr
    by_cases h10 : ts.length ≤ 10
    · have HF := Lib.hid (show stNumF ts = numF ts by rw [stNumF, if_pos h10])
      have HS := Lib.hid (stOf_num h10)
      have hb0 : 0 ≤ numF ts := (numF_bd ts).1
      have hb1 : ¬ numF ts < 0 := by omega
      go_wp2_with fail
      refine (stateNumber_any A1 ts.length c1 ts _ (by omega) R1.out).mono ?_
      rintro e w' ⟨rfl, rfl⟩
      rw [HF.out]
      go_wp2_with fail
      refine (specStateNumber_any A1 ts.length c1 ts _ (by omega) R1.out).mono ?_
      rintro e w' ⟨rfl, rfl⟩
      rw [HF.out]
      go_wp2_with fail
      refine (stateOf_any (numF ts) (ts.length : Int) _).mono ?_
      rintro e w2 ⟨v2, rfl, hO, hb2⟩
      rw [HS.out.1]
      rw [HS.out.2] at hO
      have O2 := Lib.hid hO
      clear hO
      have a2 := a1.trans (hb2.mono a1.size)
      go_wp2_with fail
      refine (sameBools_own (by omega) O2.out (O1.out.keep hb2)).mono ?_
      rintro e w3 ⟨rfl, hb3⟩
      go_wp2
      go_ret
      exact ⟨rfl, a2.trans (hb3.mono a2.size)⟩
    · have HF := Lib.hid (show stNumF ts = -1 by rw [stNumF, if_neg h10])
      have h11 : (10 : Int) < (ts.length : Int) := by omega
      go_wp2_with fail
      refine (stateNumber_any A1 ts.length c1 ts _ (by omega) R1.out).mono ?_
      rintro e w' ⟨rfl, rfl⟩
      rw [HF.out]
      go_wp2_with fail
      refine (specStateNumber_any A1 ts.length c1 ts _ (by omega) R1.out).mono ?_
      rintro e w' ⟨rfl, rfl⟩
      rw [HF.out]
      go_wp2_with fail
      refine (alive_any _).mono ?_
      rintro e w2 ⟨rfl, hb2⟩
      go_wp2
      go_ret
      exact ⟨rfl, a1.trans (hb2.mono a1.size)⟩
  · have hl2 : (1048576 : Int) < (n : Int) := by omega
    go_enter Tryd.func4, Tryd.ntmps4
    go_wp2
    go_ret
    exact ⟨rfl, Below.refl _ _⟩

theorem stOf_yes {m l : Int} (h : stOfB m l = true) : ∃ k j : Nat, l = (k : Int) ∧ m = (j : Int) ∧ k ≤ 10 ∧ (j : Int) < 2 ^ k ∧ stOfF m l = bitsF j k := by
  have h2 := h
  simp only [stOfB, Bool.and_eq_true, decide_eq_true_eq] at h2
  obtain ⟨k, rfl⟩ := Int.eq_ofNat_of_zero_le h2.1.1.1
  obtain ⟨j, rfl⟩ := Int.eq_ofNat_of_zero_le h2.1.2
  refine ⟨k, j, rfl, rfl, by omega, by simpa using h2.2, ?_⟩
  rw [stOfF, if_pos h]; rfl

set_option maxHeartbeats 1000000 in
theorem stateOf_walk (w : World) (A : Option Addr) (n c : Nat) (code : List Int) (hr : RowB w A n code) (hnc : n ≤ c) (hc : c ≤ 9223372036854775807) :
    Calls Tryd.prog 5 #[.slice A n c] w fun e w' => e = .returned (.bool true) ∧ Below w.heap.size w w' := by
  by_cases hlen : n ≤ 1048576
  · go_enter Tryd.func5, Tryd.ntmps5
    go_wp2_with fail
    refine (drawStateOf_any A n c code _ hr hnc hc).mono ?_
    rintro e w1 ⟨m, l, rfl, a1⟩
    clear hr
    go_wp2_with fail
    refine (stateOf_any m l _).mono ?_
    rintro e w2 ⟨v2, rfl, hO, hb2⟩
    have O2 := Lib.hid hO
    have a2 := a1.trans (hb2.mono a1.size)
    clear hO
    go_wp2_with fail
    refine (specStateOf_any m l _).mono ?_
    rintro e w3 ⟨v3, rfl, hO, hb3⟩
    have O3 := Lib.hid hO
    have a3 := a2.trans (hb3.mono a2.size)
    clear hO
    go_wp2_with fail
    refine (sameBools_own (Nat.le_trans (stOfF_len _ _) (by decide)) (O2.out.keep hb3) O3.out).mono ?_
    rintro e w4 ⟨rfl, hb4⟩
    have a4 := a3.trans (hb4.mono a3.size)
    have O4 := Lib.hid ((O2.out.keep hb3).keep hb4)
    by_cases hB : stOfB m l = true
    · obtain ⟨k, j, rfl, rfl, hk, hj, hF⟩ := stOf_yes hB
      obtain ⟨A1, c1, he, _, hrow⟩ := O4.out.row
      subst he
      rw [hF, bitsF_len] at hrow
      have HL := Lib.hid (show (stOfF (j : Int) (k : Int)).length = k by rw [hF, bitsF_len])
      have R4 := Lib.hid hrow
      have HN := Lib.hid (show stNumF (bitsF j k) = (j : Int) by
        rw [stNumF, if_pos (by rw [bitsF_len]; exact hk), numF_bitsF]
        have : j < 2 ^ k := by exact_mod_cast hj
        rw [Nat.mod_eq_of_lt this])
      have HX := Lib.hid (stOf_far (m := (2 : Int) ^ k) (l := k) (by omega))
      have hp := pow_bd hk
      have hp1 := hp.1
      have hp2 := hp.2
      have hmin : min k 64 = k := by omega
      have HB := Lib.hid hB
      rw [HL.out]
      rw [HB.out]
      clear hF hj hrow hp hB
      go_wp2_with fail
      refine (stateOf_any ((2 : Int) ^ k) (k : Int) _).mono ?_
      rintro e w5 ⟨v5, rfl, hO, hb5⟩
      rw [HX.out.1]
      clear hO
      have a5 := a4.trans (hb5.mono a4.size)
      go_wp2_with fail
      refine (stateNumber_any A1 k c1 (bitsF j k) _ (by omega) (R4.out.below hb5)).mono ?_
      rintro e w' ⟨rfl, rfl⟩
      rw [HN.out]
      go_wp2
      go_ret
      exact ⟨rfl, a5⟩
    · rw [Bool.not_eq_true] at hB
      have HB := Lib.hid hB
      have HE := Lib.hid (show stOfF m l = [] by rw [stOfF, if_neg (by rw [hB]; simp)])
      obtain ⟨A1, c1, he, _, _⟩ := O4.out.row
      rw [HE.out] at he
      subst he
      rw [HB.out]
      clear hB
      go_wp2_with fail
      refine (alive_any _).mono ?_
      rintro e w5 ⟨rfl, hb5⟩
      go_wp2
      go_ret
      exact ⟨rfl, a4.trans (hb5.mono a4.size)⟩
  · have hl2 : (1048576 : Int) < (n : Int) := by omega
    go_enter Tryd.func5, Tryd.ntmps5
    go_wp2
    go_ret
    exact ⟨rfl, Below.refl _ _⟩
end Go.Proofs.YtcgbigbbonlgfaaDoor
