/- Bays: the promise of BaySafe: the walk. -/
import Derived.Test.YtapbmpodimdkpaaDoorBayH
import Derived.Test.YtapbmpodimdkpaaDoorBay6
namespace Go.Proofs.YtapbmpodimdkpaaDoor
open Go.ChangeShapes Go.WideShapes Go.ChangeAt Go.RowKit

theorem safe_line : ∀ a b c e : Bool, (safeF (a, b, false, e) && !safeF (a, b, true, true)) = true ∧ decide (safeF (a, b, c, e) = (!decide ((a, b, c, e) = (a, b, true, true)) && (!c || !e))) = true := by decide

set_option maxRecDepth 100000 in
set_option maxHeartbeats 4000000 in
theorem lawBaySafe_walk (w : World) (A : Option Addr) (n c : Nat) (code : List Int) (hr : RowB w A n code) (hnc : n ≤ c) (hc : c ≤ 9223372036854775807) :
    Calls Tryd.prog 3 #[.slice A n c] w fun x w' => x = .returned (.bool true) ∧ Below w.heap.size w w' := by
  by_cases hbig : 1048576 < n
  · go_enter Tryd.func3, Tryd.ntmps3
    go_wp2
    go_ret
    exact ⟨rfl, Below.refl _ _⟩
  · go_enter Tryd.func3, Tryd.ntmps3
    go_wp2_with fail
    refine (drawBaySafe_any A n c code _ hr hnc hc).mono ?_
    rintro x w1 ⟨y, rfl, hb1⟩
    obtain ⟨y0, y1, y2, y3⟩ := y
    dsimp only [vB]
    have K1 := Lib.hid (IsBlk.new w1 24 #[.bool y0, .bool y1, .bool y2, .bool y3])
    have a1 := Lib.hid (hb1.alloc hb1.size (.cells #[.bool y0, .bool y1, .bool y2, .bool y3] 24))
    clear hb1 hr
    go_wp2_with fail
    refine (baySafe_any y0 y1 y2 y3 _).mono ?_
    rintro x w2 ⟨rfl, hb2⟩
    have K2 := Lib.hid (K1.out.keep hb2)
    have a2 := Lib.hid (a1.out.trans (hb2.mono a1.out.size))
    obtain ⟨p0, p1, p2, p3, -⟩ := K2.out.four
    clear hb2 K1 a1
    go_wp2_with fail
    refine (specBaySafe_any y0 y1 y2 y3 _).mono ?_
    rintro x w3 ⟨rfl, hb3⟩
    have K3 := Lib.hid (K2.out.keep hb3)
    have a3 := Lib.hid (a2.out.trans (hb3.mono a2.out.size))
    clear hb3 K2 a2 p0 p1 p2 p3
    have M3 := Lib.hid ((K3.out.alloc (.cells #[.bool y0, .bool y1, .bool false, .bool y3] 24)).alloc (.cells #[.bool y0, .bool y1, .bool true, .bool true] 24))
    have Y3 := Lib.hid (IsBlk.new (w3.alloc (.cells #[.bool y0, .bool y1, .bool false, .bool y3] 24)) 24 #[.bool y0, .bool y1, .bool true, .bool true])
    have b3 := Lib.hid ((a3.out.alloc a3.out.size (.cells #[.bool y0, .bool y1, .bool false, .bool y3] 24)).alloc (by have := a3.out.size; simp; omega) (.cells #[.bool y0, .bool y1, .bool true, .bool true] 24))
    simp only [World.size_alloc] at Y3
    obtain ⟨p0, p1, p2, p3, -⟩ := K3.out.four
    go_wp2_with fail
    refine (baySafe_any y0 y1 false y3 _).mono ?_
    rintro x w4 ⟨rfl, hb4⟩
    rw [show safeF (y0, y1, false, y3) = true from rfl]
    have M4 := Lib.hid (M3.out.keep hb4)
    have Y4 := Lib.hid (Y3.out.keep hb4)
    have a4 := Lib.hid (b3.out.trans (hb4.mono b3.out.size))
    clear hb4 M3 Y3 b3 a3 K3 p0 p1 p2 p3
    obtain ⟨q0, q1, q2, q3, -⟩ := Y4.out.four
    go_wp2_with fail
    refine (baySafe_any y0 y1 true true _).mono ?_
    rintro x w5 ⟨rfl, hb5⟩
    rw [show safeF (y0, y1, true, true) = false from rfl]
    have M5 := Lib.hid (M4.out.keep hb5)
    have Y5 := Lib.hid (Y4.out.keep hb5)
    have a5 := Lib.hid (a4.out.trans (hb5.mono a4.out.size))
    clear hb5 M4 Y4 a4 q0 q1 q2 q3
    obtain ⟨p0, p1, p2, p3, -⟩ := M5.out.four
    obtain ⟨q0, q1, q2, q3, -⟩ := Y5.out.four
    have hcmp := neqBay (y0, y1, y2, y3) (y0, y1, true, true)
    dsimp only [vB] at hcmp
    cases y2 <;> cases y3
    all_goals simp only [safeF, Prod.mk.injEq, decide_true, decide_false, Bool.not_true, Bool.not_false, Bool.or_true, Bool.or_false, Bool.false_eq_true, and_true, and_false, Bool.or_self, and_self] at hcmp ⊢
    all_goals go_wp2_with fail
    all_goals refine (alive_any _).mono ?_
    all_goals rintro x w6 ⟨rfl, hb6⟩
    all_goals go_wp2
    all_goals go_ret
    all_goals exact ⟨rfl, a5.out.trans (hb6.mono a5.out.size)⟩
end Go.Proofs.YtapbmpodimdkpaaDoor
