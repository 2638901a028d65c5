/- Bays, of the model: BayMay, BayDo, BayRun, numbers of bays. -/
import Derived.Test.YtapbmpodimdkpaaDoorBay1
namespace Go.Proofs.YtapbmpodimdkpaaDoor
open Go.ChangeShapes Go.WideShapes Go.ChangeAt Go.RowKit

theorem l9Part_any (a b c e : Bool) (p : Int) (h0 : 0 ≤ p) (h4 : p < 4) (w : World) :
    Calls Tryd.prog 44 #[.agg #[.bool a, .bool b, .bool c, .bool e], .int .i64 p] w fun x w' => x = .returned (.bool (partF (a, b, c, e) p.toNat)) ∧ Below w.heap.size w w' := by
  obtain ⟨k, rfl⟩ := Int.eq_ofNat_of_zero_le h0
  have hk : k = 0 ∨ k = 1 ∨ k = 2 ∨ k = 3 := by omega
  clear h0 h4
  rcases hk with rfl | rfl | rfl | rfl
  all_goals go_enter Tryd.func44, Tryd.ntmps44
  all_goals go_wp2
  all_goals go_ret
  all_goals exact ⟨rfl, below_bx _ _⟩
theorem l9Set_any (a b c e : Bool) (p : Int) (t : Bool) (h0 : 0 ≤ p) (h4 : p < 4) (w : World) :
    Calls Tryd.prog 46 #[.agg #[.bool a, .bool b, .bool c, .bool e], .int .i64 p, .bool t] w fun x w' => x = .returned (vB (setF (a, b, c, e) p.toNat t)) ∧ Below w.heap.size w w' := by
  obtain ⟨k, rfl⟩ := Int.eq_ofNat_of_zero_le h0
  have hk : k = 0 ∨ k = 1 ∨ k = 2 ∨ k = 3 := by omega
  clear h0 h4
  rcases hk with rfl | rfl | rfl | rfl
  all_goals go_enter Tryd.func46, Tryd.ntmps46
  all_goals go_wp2
  · refine bodyPost_ret (v := .agg #[.bool t, .bool b, .bool c, .bool e]) (by simp [results, Tryd.results46, go_sem]) rfl ⟨rfl, ?_⟩
    exact (below_bx _ _).alloc (by simp) _
  · refine bodyPost_ret (v := .agg #[.bool a, .bool t, .bool c, .bool e]) (by simp [results, Tryd.results46, go_sem]) rfl ⟨rfl, ?_⟩
    exact (below_bx _ _).alloc (by simp) _
  · refine bodyPost_ret (v := .agg #[.bool a, .bool b, .bool t, .bool e]) (by simp [results, Tryd.results46, go_sem]) rfl ⟨rfl, ?_⟩
    exact (below_bx _ _).alloc (by simp) _
  · refine bodyPost_ret (v := .agg #[.bool a, .bool b, .bool c, .bool t]) (by simp [results, Tryd.results46, go_sem]) rfl ⟨rfl, ?_⟩
    exact (below_bx _ _).alloc (by simp) _

set_option maxHeartbeats 4000000 in
theorem specBayMay_any (a b c e : Bool) (d : Int) (w : World) :
    Calls Tryd.prog 18 #[.agg #[.bool a, .bool b, .bool c, .bool e], .int .i64 d] w fun x w' => x = .returned (.bool (mayF (a, b, c, e) d)) ∧ Below w.heap.size w w' := by
  by_cases hin : 0 ≤ d ∧ d ≤ 7
  · have hd : d = 0 ∨ d = 1 ∨ d = 2 ∨ d = 3 ∨ d = 4 ∨ d = 5 ∨ d = 6 ∨ d = 7 := by omega
    have HI := Lib.hid (show inB d 0 7 = true by simp [inB]; omega)
    have KA := IsBlk.new w 24 #[.bool a, .bool b, .bool c, .bool e]
    rcases hd with rfl | rfl | rfl | rfl | rfl | rfl | rfl | rfl
    all_goals clear hin
    all_goals go_enter Tryd.func18, Tryd.ntmps18
    all_goals go_wp2_with fail
    all_goals refine (l1In_any _ _ _ _).mono ?_
    all_goals rintro x w' ⟨rfl, rfl⟩
    all_goals rw [HI.out]
    all_goals go_wp2_with fail
    all_goals refine (l9Part_any a b c e _ (by decide) (by decide) _).mono ?_
    all_goals rintro x w1 ⟨rfl, hb1⟩
    all_goals obtain ⟨p0, p1, p2, p3, -⟩ := (KA.keep hb1).four
    all_goals have b1 : Below w.heap.size w w1 := (below_bx w _).trans (hb1.mono (by simp))
    all_goals clear hb1
    all_goals dsimp only [partF, Int.toNat]
    all_goals cases a <;> cases b <;> cases c <;> cases e
    all_goals go_wp2
    all_goals go_ret
    all_goals exact ⟨rfl, b1⟩
  · have HI := Lib.hid (show inB d 0 7 = false by rw [Bool.eq_false_iff]; intro h; simp [inB] at h; omega)
    have HM := Lib.hid (mayF_out (b := (a, b, c, e)) hin)
    clear hin
    go_enter Tryd.func18, Tryd.ntmps18
    go_wp2_with fail
    refine (l1In_any _ _ _ _).mono ?_
    rintro x w' ⟨rfl, rfl⟩
    rw [HI.out]
    go_wp2
    go_ret
    exact ⟨retB HM.out.symm, below_bx _ _⟩
end Go.Proofs.YtapbmpodimdkpaaDoor
