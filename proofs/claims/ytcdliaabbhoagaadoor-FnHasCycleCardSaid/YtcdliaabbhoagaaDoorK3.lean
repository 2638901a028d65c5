/- The laws' comparison of lists of lists of numbers. -/
import Derived.Test.YtcdliaabbhoagaaDoorD6
import Derived.Test.YtcdliaabbhoagaaDoorG3
import Derived.Test.YtcdliaabbhoagaaDoorJ0
namespace Go.Proofs.YtcdliaabbhoagaaDoor
open Go.ChangeShapes Go.WideShapes Go.ChangeAt Go.RowKit

theorem sameInts_q (v v' : Value) (xs : List Int) (w : World) (hn : xs.length ≤ 1048576) (hr : RowI w v xs) (hr' : RowI w v' xs) :
    Calls Tryd.prog 14 #[v, v'] w fun e w' => e = .returned (.bool true) ∧ ∃ m, w' = w.drewN m := by
  obtain ⟨A, c, rfl, HA⟩ := hr
  obtain ⟨A', c', rfl, HA'⟩ := hr'
  generalize hn' : xs.length = n at *
  have HL := Lib.hid hn'
  have HC := Lib.hid HA
  have HC' := Lib.hid HA'
  clear HA HA' hn'
  go_enter Tryd.func14, Tryd.ntmps14
  go_wp2
  go_loopw [5] (fun i wr => ∃ k m : Nat, k ≤ n ∧ i = .int .i64 k ∧ wr = w.drewN m) (fun i _ => n - (intOf i).toNat)
  case atStart => exact ⟨0, 0, by omega, rfl, rfl⟩
  case round =>
    obtain ⟨k, m, hk, rfl, rfl⟩ := hrel
    by_cases hlt : k < n
    · obtain ⟨g, rfl, hb, HD⟩ := HC.out (by omega)
      obtain ⟨g', rfl, hb', HD'⟩ := HC'.out (by omega)
      have hkl : xs[k]? = some (xs[k]'(by have := HL.out; omega)) := List.getElem?_eq_getElem _
      generalize (xs[k]'(by have := HL.out; omega)) = x at hkl
      have g0 : w.cell? ⟨g, k, none⟩ = some (.int .i64 x) := by have := HD k x hkl; rwa [Nat.zero_add] at this
      have g0' : w.cell? ⟨g', k, none⟩ = some (.int .i64 x) := by have := HD' k x hkl; rwa [Nat.zero_add] at this
      clear hkl HD HD'
      have i0 : (0 : Int) ≤ (k : Int) := by omega
      have i1 : (k : Int) < (n : Int) := by omega
      go_wp2
      go_quiet (fail)
      rename_i nq
      go_wp2
      go_roundw
      case rel => exact ⟨k + 1, m + nq, by omega, by go_num, rfl⟩
      case measure => simp [intOf]; omega
    · go_wp2
      go_ret
      exact ⟨rfl, m, rfl⟩

end Go.Proofs.YtcdliaabbhoagaaDoor
