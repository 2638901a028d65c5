/- Bays, of the program: deedToward. -/
import Derived.Test.YtapbmpodimdkpaaDoorBay8
namespace Go.Proofs.YtapbmpodimdkpaaDoor
open Go.ChangeShapes Go.WideShapes Go.ChangeAt Go.RowKit Go.Maps

set_option maxRecDepth 100000 in
set_option maxHeartbeats 4000000 in
theorem deedToward_any (a b c e : Bool) (B cnt : Nat) (M : B4 → Option Nat) (many : Nat) (w : World) (hT : MustTab w) (hM : MapSt w B M cnt) :
    Calls Tryd.prog 49 #[.agg #[.bool a, .bool b, .bool c, .bool e], .map (some B), .int .i64 (many : Int)] w fun x w' => x = .returned (.int .i64 (towF M (a, b, c, e) many)) ∧ Below w.heap.size w w' := by
  have HT := Lib.hid hT
  have HM := Lib.hid hM
  clear hT hM
  go_enter Tryd.func49, Tryd.ntmps49
  go_wp2
  go_loopw [12] (fun i wr => ∃ d : Nat, d ≤ 8 ∧ i = .int .i64 d ∧ Below w.heap.size w wr ∧ IsBlk wr w.heap.size 24 #[.bool a, .bool b, .bool c, .bool e] ∧ ∀ j, j < d → (mayN (a, b, c, e) j && M (doN (a, b, c, e) j) == some many) = false) (fun i _ => 8 - (intOf i).toNat)
  case atStart => exact ⟨0, by omega, rfl, below_bx w _, IsBlk.new w _ _, fun j h => by omega⟩
  case round =>
    obtain ⟨d, hd, rfl, hbel, hA, hall⟩ := hrel
    have HALL := Lib.hid hall
    have HA := Lib.hid hA
    have HB := Lib.hid hbel
    obtain ⟨p0, p1, p2, p3, -⟩ := hA.four
    clear hall hA
    by_cases hlt : d < 8
    · go_wp2_with fail
      refine (bayDo_any a b c e d _ (HT.out.keep hbel)).mono ?_
      rintro x w1 ⟨rfl, hb1⟩
      have b1 := Lib.hid (HB.out.trans (hb1.mono HB.out.size))
      have KA := Lib.hid (HA.out.keep hb1)
      rw [mayF_nat hlt]
      clear p0 p1 p2 p3 HA HB hb1 hbel
      by_cases hm : mayN (a, b, c, e) d = true
      · have HMY := Lib.hid hm
        rw [doF_nat hlt hm, hm]
        generalize hy : doN (a, b, c, e) d = y
        have HY := Lib.hid hy
        clear hm hy
        have MS := Lib.hid ((HM.out.keep b1.out).alloc (.cells #[.bool y.1, .bool y.2.1, .bool y.2.2.1, .bool y.2.2.2] 24))
        obtain ⟨y0, y1, y2, y3⟩ := y
        dsimp only at MS
        dsimp only [vB]
        cases hM : M (y0, y1, y2, y3) with
        | none =>
          have HN := Lib.hid (show (mayN (a, b, c, e) d && M (doN (a, b, c, e) d) == some many) = false by rw [HY.out, hM]; simp)
          go_wp2_with (at_lookup; refine wpList_look_none _ rfl _ _ rfl B cnt M MS.out (y0, y1, y2, y3) hM rfl rfl ?_)
          go_roundw
          case rel => exact ⟨d + 1, by omega, by go_num, b1.out.alloc b1.out.size _, KA.out.alloc _, tow_upto HALL.out HN.out⟩
          case measure => simp [intOf]; omega
        | some v =>
          by_cases hv : v = many
          · have HN := Lib.hid (tow_is (M := M) (b := (a, b, c, e)) (m := many) hlt (by rw [HMY.out, HY.out, hM, hv]; simp) HALL.out)
            go_wp2_with (at_lookup; refine wpList_look_some _ rfl _ _ rfl B cnt M MS.out (y0, y1, y2, y3) v hM rfl rfl ?_)
            go_ret
            exact ⟨retI HN.out.symm, b1.out.alloc b1.out.size _⟩
          · have HN := Lib.hid (show (mayN (a, b, c, e) d && M (doN (a, b, c, e) d) == some many) = false by rw [HY.out, hM]; simp [hv])
            go_wp2_with (at_lookup; refine wpList_look_some _ rfl _ _ rfl B cnt M MS.out (y0, y1, y2, y3) v hM rfl rfl ?_)
            go_roundw
            case rel => exact ⟨d + 1, by omega, by go_num, b1.out.alloc b1.out.size _, KA.out.alloc _, tow_upto HALL.out HN.out⟩
            case measure => simp [intOf]; omega
      · rw [Bool.not_eq_true] at hm
        have HN := Lib.hid (show (mayN (a, b, c, e) d && M (doN (a, b, c, e) d) == some many) = false by rw [hm]; rfl)
        rw [hm]
        generalize doF (a, b, c, e) d = y
        clear hm
        have MS := Lib.hid ((HM.out.keep b1.out).alloc (.cells #[.bool y.1, .bool y.2.1, .bool y.2.2.1, .bool y.2.2.2] 24))
        obtain ⟨y0, y1, y2, y3⟩ := y
        dsimp only at MS
        dsimp only [vB]
        cases hM : M (y0, y1, y2, y3) with
        | none =>
          go_wp2_with (at_lookup; refine wpList_look_none _ rfl _ _ rfl B cnt M MS.out (y0, y1, y2, y3) hM rfl rfl ?_)
          go_roundw
          case rel => exact ⟨d + 1, by omega, by go_num, b1.out.alloc b1.out.size _, KA.out.alloc _, tow_upto HALL.out HN.out⟩
          case measure => simp [intOf]; omega
        | some v =>
          go_wp2_with (at_lookup; refine wpList_look_some _ rfl _ _ rfl B cnt M MS.out (y0, y1, y2, y3) v hM rfl rfl ?_)
          go_roundw
          case rel => exact ⟨d + 1, by omega, by go_num, b1.out.alloc b1.out.size _, KA.out.alloc _, tow_upto HALL.out HN.out⟩
          case measure => simp [intOf]; omega
    · obtain rfl : d = 8 := by omega
      have HN := Lib.hid (tow_none HALL.out)
      go_wp2
      go_ret
      exact ⟨retI HN.out.symm, HB.out⟩
end Go.Proofs.YtapbmpodimdkpaaDoor
