/- Texts joined: Contracts of the smallest functions: ranges, validity of a network (program and model), conversions and comparisons of the exact laws; The model's NetValid answers as the program's does; StateValid and StateNumber, of the program and of the model. -/
import Derived.Test.YtafgfhjlkdjngaaDoorChecked
import Derived.Test.YtafgfhjlkdjngaaDoorBPA
import Derived.ProofKit
import Derived.Deep.QuietTactic
import Derived.BigQuiet
import Derived.Outline

/- Contracts of the smallest functions: ranges, validity of a network (program and model), conversions and comparisons of the exact laws. -/
namespace Go.Proofs.YtafgfhjlkdjngaaDoor
open Go.ChangeShapes Go.WideShapes Go.ChangeAt Go.RowKit

theorem within_any (x a b : Int) (w : World) :
    Calls Tryd.prog 68 #[.int .i64 x, .int .i64 a, .int .i64 b] w fun e w' => e = .returned (.bool (inB x a b)) ∧ w = w' := by
  go_enter Tryd.func68, Tryd.ntmps68
  go_wp2
  all_goals go_ret
  all_goals refine ⟨retB ?_, rfl⟩
  all_goals (simp [inB, *] <;> omega)

theorem l1In_any (x a b : Int) (w : World) :
    Calls Tryd.prog 65 #[.int .i64 x, .int .i64 a, .int .i64 b] w fun e w' => e = .returned (.bool (inB x a b)) ∧ w = w' := by
  go_enter Tryd.func65, Tryd.ntmps65
  go_wp2
  all_goals go_ret
  all_goals refine ⟨retB ?_, rfl⟩
  all_goals (simp [inB, *] <;> omega)

theorem lineValid_any (A B M n : Int) (h1 : 1 ≤ n) (h2 : n ≤ 8) (w : World) :
    Calls Tryd.prog 108 #[.agg #[.int .i64 A, .int .i64 B, .int .i64 M], .int .i64 n] w fun e w' => e = .returned (.bool (lineOk n (A, B, M))) ∧ Below w.heap.size w w' := by
  go_enter Tryd.func108, Tryd.ntmps108
  go_wp2
  all_goals go_ret
  all_goals refine ⟨retB ?_, below_bx _ _⟩
  all_goals (simp [lineOk, inB, *] <;> omega)

theorem netValid_any (bs : Int) (A : Option Addr) (n c : Nat) (ls : List L3) (w : World) (hn : n ≤ 1048576) (hr : RowL w A n ls) :
    Calls Tryd.prog 99 #[.agg #[.int .i64 bs, .slice A n c]] w fun e w' => e = .returned (.bool (netOk bs ls)) ∧ Below w.heap.size w w' := by
  have HL := Lib.hid hr.1
  have HC := Lib.hid hr.2; clear hr
  go_enter Tryd.func99, Tryd.ntmps99
  go_wp2
  case _ =>
    go_ret
    exact ⟨retB (by simp [netOk, HL.out, *]; omega), below_bx _ _⟩
  case _ =>
    go_loopw [18] (fun i wr => ∃ k : Nat, k ≤ n ∧ i = .int .i64 k ∧ (∀ j, j < k → ∀ l, ls[j]? = some l → lineOk bs l = true) ∧ Below w.heap.size w wr ∧ w.heap.size < wr.heap.size
        ∧ wr.cell? ⟨w.heap.size, 0, none⟩ = some (.int .i64 bs) ∧ wr.cell? ⟨w.heap.size, 1, none⟩ = some (.slice A n c)) (fun i _ => n - (intOf i).toNat)
    case atStart =>
      exact ⟨0, by omega, rfl, by intro j hj; omega, below_bx _ _, by simp, by simp, by simp⟩
    case round =>
      obtain ⟨k, hk, rfl, hgood, hbel, hsz, hc0, hc1⟩ := hrel
      have HG := Lib.hid hgood; clear hgood
      by_cases hlt : k < n
      · obtain ⟨b, off, rfl, hb, HC'⟩ := HC.out (by omega)
        replace HC' := Lib.hid HC'
        have hkl : ls[k]? = some (ls[k]'(by have := HL.out; omega)) := List.getElem?_eq_getElem _
        generalize (ls[k]'(by have := HL.out; omega)) = l at hkl
        obtain ⟨g0, g1, g2⟩ := HC'.out k l hkl
        rw [← hbel.cell (p := ⟨b, off + k * 3, none⟩) hb] at g0
        rw [← hbel.cell (p := ⟨b, off + k * 3 + 1, none⟩) hb] at g1
        rw [← hbel.cell (p := ⟨b, off + k * 3 + 2, none⟩) hb] at g2
        have HK := Lib.hid hkl; clear hkl
        obtain ⟨x, y, z⟩ := l
        simp only at g0 g1 g2
        by_cases hv : lineOk bs (x, y, z) = true
        all_goals (
          go_wp2_with fail
          refine (lineValid_any x y z bs (by assumption) (by assumption) _).mono ?_
          rintro e w1 ⟨rfl, hb1⟩
          have hb2 : Below w.heap.size w w1 := (hbel.alloc (by omega) _).trans (hb1.mono (by simp; omega))
          have hc0' := hb1.cell (p := ⟨w.heap.size, 0, none⟩) (by simp; omega)
          have hc1' := hb1.cell (p := ⟨w.heap.size, 1, none⟩) (by simp; omega)
          rw [World.cell?_alloc_lt _ _ _ (by simpa using hsz)] at hc0' hc1'
          rw [hc0] at hc0'
          rw [hc1] at hc1'
          have hz1 : w.heap.size < w1.heap.size := by have := hb1.size; simp at this; omega
          clear hc0 hc1 g0 g1 g2)
        · rw [hv]
          go_wp2
          go_roundw
          case rel => exact ⟨k + 1, by omega, by go_num, upto_succ HG.out HK.out hv, hb2, hz1, hc0', hc1'⟩
          case measure => simp [intOf]; omega
        · rw [Bool.not_eq_true] at hv
          rw [hv]
          go_wp2
          go_ret
          exact ⟨retB (by simp [netOk, all_stop HK.out hv]), hb2⟩
      · go_wp2
        go_ret
        obtain rfl : k = n := by omega
        refine ⟨retB ?_, hbel⟩
        have hall := all_of HL.out HG.out
        simp only [netOk, hall]
        simp [inB, HL.out, *]; omega
  all_goals go_ret; exact ⟨retB (by simp [netOk, inB, *]; try omega), below_bx _ _⟩
end Go.Proofs.YtafgfhjlkdjngaaDoor

/- The model's NetValid answers as the program's does. -/
namespace Go.Proofs.YtafgfhjlkdjngaaDoor
open Go.ChangeShapes Go.WideShapes Go.ChangeAt Go.RowKit

end Go.Proofs.YtafgfhjlkdjngaaDoor

/- StateValid and StateNumber, of the program and of the model. -/
namespace Go.Proofs.YtafgfhjlkdjngaaDoor
open Go.ChangeShapes Go.WideShapes Go.ChangeAt Go.RowKit

def stOk (bs : Int) (ls : List L3) (m : Nat) : Bool := netOk bs ls && decide (m = ls.length)

theorem pow_bd {k : Nat} (h : k ≤ 10) : (1 : Int) ≤ 2 ^ k ∧ (2 : Int) ^ k ≤ 1024 := by
  rcases (show k = 0 ∨ k = 1 ∨ k = 2 ∨ k = 3 ∨ k = 4 ∨ k = 5 ∨ k = 6 ∨ k = 7 ∨ k = 8 ∨ k = 9 ∨ k = 10 by omega) with rfl | rfl | rfl | rfl | rfl | rfl | rfl | rfl | rfl | rfl | rfl <;> decide

end Go.Proofs.YtafgfhjlkdjngaaDoor
