/- Bays, of the model: bays by their numbers. -/
import Derived.Test.YtapbmpodimdkpaaDoorBay3
namespace Go.Proofs.YtapbmpodimdkpaaDoor
open Go.ChangeShapes Go.WideShapes Go.ChangeAt Go.RowKit

set_option maxHeartbeats 4000000 in
theorem l9Bay_any (k : Nat) (hk : k < 16) (w : World) :
    Calls Tryd.prog 52 #[.int .i64 (k : Int)] w fun x w' => x = .returned (vB (bayN k)) ∧ Below w.heap.size w w' := by
  have hd : k = 0 ∨ k = 1 ∨ k = 2 ∨ k = 3 ∨ k = 4 ∨ k = 5 ∨ k = 6 ∨ k = 7 ∨ k = 8 ∨ k = 9 ∨ k = 10 ∨ k = 11 ∨ k = 12 ∨ k = 13 ∨ k = 14 ∨ k = 15 := by omega
  clear hk
  rcases hd with rfl | rfl | rfl | rfl | rfl | rfl | rfl | rfl | rfl | rfl | rfl | rfl | rfl | rfl | rfl | rfl
  all_goals go_enter Tryd.func52, Tryd.ntmps52
  all_goals go_wp2
  all_goals refine bodyPost_ret (v := vB (bayN _)) (by simp [results, Tryd.results52, go_sem]; rfl) rfl ⟨rfl, ?_⟩
  all_goals exact below_bx _ _
theorem eqlBay (x y : B4) (w : World) : (binOp .eql 24 (vB x) (vB y)).run Tryd.prog w = .ok (.bool (decide (x = y))) w := by
  obtain ⟨a, b, c, e⟩ := x
  obtain ⟨a', b', c', e'⟩ := y
  cases a <;> cases b <;> cases c <;> cases e <;> cases a' <;> cases b' <;> cases c' <;> cases e' <;> kernel_rfl
theorem eq4 : ∀ x0 x1 x2 x3 a b c e : Bool, (decide (x0 = a) && (decide (x1 = b) && (decide (x2 = c) && decide (x3 = e)))) = decide ((x0, x1, x2, x3) = (a, b, c, e)) := by decide
theorem upto_ne {b : B4} {k : Nat} (h : ∀ j, j < k → bayN j ≠ b) (hk : bayN k ≠ b) : ∀ j, j < k + 1 → bayN j ≠ b := fun j hj => by
  rcases Nat.lt_or_ge j k with h1 | h1
  · exact h j h1
  · obtain rfl : j = k := by omega
    exact hk
set_option maxRecDepth 100000 in
set_option maxHeartbeats 4000000 in
theorem l9Number_any (a b c e : Bool) (w : World) :
    Calls Tryd.prog 51 #[.agg #[.bool a, .bool b, .bool c, .bool e]] w fun x w' => x = .returned (.int .i64 (numN (a, b, c, e) : Int)) ∧ Below w.heap.size w w' := by
  go_enter Tryd.func51, Tryd.ntmps51
  go_wp2
  go_loopw [3] (fun i wr => ∃ k : Nat, k ≤ 15 ∧ i = .int .i64 k ∧ Below w.heap.size w wr ∧ IsBlk wr w.heap.size 24 #[.bool a, .bool b, .bool c, .bool e] ∧ ∀ j, j < k → bayN j ≠ (a, b, c, e)) (fun i _ => 15 - (intOf i).toNat)
  case atStart => exact ⟨0, by omega, rfl, below_bx _ _, IsBlk.new w _ _, fun j h => by omega⟩
  case round =>
    obtain ⟨k, hk, rfl, hbel, hA, hall⟩ := hrel
    obtain ⟨p0, p1, p2, p3, -⟩ := hA.four
    have HA := Lib.hid hA
    have HALL := Lib.hid hall
    clear hA hall
    by_cases hlt : k < 15
    · go_upto_region 4 with fail
      go_cut [11] from 4 to 12 (fun v wx => v = .bool (decide (bayN k = (a, b, c, e))) ∧ Below wr.heap.size wr wx)
      case first =>
        go_region_with (go_at_call 52; refine (l9Bay_any k (by omega) _).mono ?_; rintro y w1 ⟨rfl, hb1⟩; (first | (have hkk := (show IsBlk wr.drew w.heap.size 24 #[.bool a, .bool b, .bool c, .bool e] from HA.out).keep hb1; obtain ⟨q0, q1, q2, q3, -⟩ := hkk.four) | skip); have hcmp := eqlBay (bayN k) (a, b, c, e); generalize hbk : bayN k = x at hcmp ⊢; obtain ⟨x0, x1, x2, x3⟩ := x; have HBK := Lib.hid hbk; clear hbk; dsimp only [vB] at hcmp ⊢)
        all_goals go_wp2_with fail
        all_goals go_meet
        all_goals exact ⟨by rw [HBK.out, eq4], ((Below.refl wr.heap.size wr).drew).trans hb1⟩
      case rest =>
        obtain ⟨rfl, hb1⟩ := hcut
        have b1 := hbel.trans (hb1.mono hbel.size)
        have KA := Lib.hid (HA.out.keep hb1)
        clear p0 p1 p2 p3 HA hb1 hbel
        by_cases hx : bayN k = (a, b, c, e)
        · have HN := Lib.hid (num_eq (by omega) hx)
          rw [decide_eq_true hx]
          clear hx
          go_wp2
          go_ret
          exact ⟨retI (by rw [HN.out]), b1⟩
        · have HX := Lib.hid hx
          rw [decide_eq_false hx]
          clear hx
          go_wp2
          go_roundw
          case rel => exact ⟨k + 1, by omega, by go_num, b1, KA.out, upto_ne HALL.out HX.out⟩
          case measure => simp [intOf]; omega
    · obtain rfl : k = 15 := by omega
      have HN := Lib.hid (num_last HALL.out)
      go_wp2
      go_ret
      exact ⟨retI (by rw [HN.out]; rfl), hbel⟩
end Go.Proofs.YtapbmpodimdkpaaDoor
