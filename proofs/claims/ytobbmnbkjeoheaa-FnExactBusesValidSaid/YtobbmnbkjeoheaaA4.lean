/- Comparisons of the exact laws, at equal values: they answer true. -/
import Derived.Test.YtobbmnbkjeoheaaA1
import Derived.Deep.RegionWith
import Derived.OwnWalk
namespace Go.Proofs.Ytobbmnbkjeoheaa
open Go.ChangeShapes Go.WideShapes Go.ChangeAt Go.RowKit

theorem eqLine_same (x y z : Int) (w : World) :
    Calls Try.prog 48 #[.agg #[.int .i64 x, .int .i64 y, .int .i64 z], .agg #[.int .i64 x, .int .i64 y, .int .i64 z]] w fun e w' => e = .returned (.bool true) ∧ Below w.heap.size w w' := by
  go_enter Try.func48, Try.ntmps48
  go_wp2
  go_ret
  exact ⟨rfl, (below_bx _ _).alloc (by simp) _⟩

theorem eqLineS_same (A A' : Option Addr) (n c c' : Nat) (ls : List L3) (w : World) (hn : n ≤ 1048576) (hr : RowL w A n ls) (hr' : RowL w A' n ls) :
    Calls Try.prog 39 #[.slice A n c, .slice A' n c'] w fun e w' => e = .returned (.bool true) ∧ Below w.heap.size w w' := by
  have HL := Lib.hid hr.1
  have HC := Lib.hid hr.2; clear hr
  have HC' := Lib.hid hr'.2; clear hr'
  go_enter Try.func39, Try.ntmps39
  go_wp2
  go_loopw [5] (fun i wr => ∃ k : Nat, k ≤ n ∧ i = .int .i64 k ∧ Below w.heap.size w wr) (fun i _ => n - (intOf i).toNat)
  case atStart => exact ⟨0, by omega, rfl, Below.refl _ _⟩
  case round =>
    obtain ⟨k, hk, rfl, hbel⟩ := hrel
    by_cases hlt : k < n
    · obtain ⟨b, off, rfl, hb, HD⟩ := HC.out (by omega)
      obtain ⟨b', off', rfl, hb', HD'⟩ := HC'.out (by omega)
      have hkl : ls[k]? = some (ls[k]'(by have := HL.out; omega)) := List.getElem?_eq_getElem _
      generalize (ls[k]'(by have := HL.out; omega)) = l at hkl
      obtain ⟨g0, g1, g2⟩ := HD k l hkl
      obtain ⟨g0', g1', g2'⟩ := HD' k l hkl
      rw [← hbel.cell (p := ⟨b, off + k * 3, none⟩) hb] at g0
      rw [← hbel.cell (p := ⟨b, off + k * 3 + 1, none⟩) hb] at g1
      rw [← hbel.cell (p := ⟨b, off + k * 3 + 2, none⟩) hb] at g2
      rw [← hbel.cell (p := ⟨b', off' + k * 3, none⟩) hb'] at g0'
      rw [← hbel.cell (p := ⟨b', off' + k * 3 + 1, none⟩) hb'] at g1'
      rw [← hbel.cell (p := ⟨b', off' + k * 3 + 2, none⟩) hb'] at g2'
      obtain ⟨x, y, z⟩ := l
      simp only at g0 g1 g2 g0' g1' g2'
      clear hkl HD HD'
      have hz : w.heap.size ≤ wr.heap.size := hbel.size
      have i0 : (0 : Int) ≤ (k : Int) := by omega
      have i1 : (k : Int) < (n : Int) := by omega
      go_wp2
      go_region_with (go_at_call 48; refine (eqLine_same x y z _).mono ?_; rintro e w1 ⟨rfl, hb1⟩)
      all_goals
        go_wp2
        go_roundw
        case rel => exact ⟨k + 1, by omega, by go_num, by first | exact hbel.trans (hb1.mono hz) | exact hbel.drew.trans (hb1.mono hz) | exact hbel.drew.drew.trans (hb1.mono hz)⟩
        case measure => simp [intOf]; omega
    · go_wp2
      go_ret
      exact ⟨rfl, hbel⟩

theorem eqNet_same (bs : Int) (A A' : Option Addr) (n c c' : Nat) (ls : List L3) (w : World) (hn : n ≤ 1048576) (hr : RowL w A n ls) (hr' : RowL w A' n ls) :
    Calls Try.prog 14 #[.agg #[.int .i64 bs, .slice A n c], .agg #[.int .i64 bs, .slice A' n c']] w fun e w' => e = .returned (.bool true) ∧ Below w.heap.size w w' := by
  go_enter Try.func14, Try.ntmps14
  go_wp2_with fail
  have hb0 := (below_bx w (.cells #[.int .i64 bs, .slice A n c] 31)).alloc (by simp) (.cells #[.int .i64 bs, .slice A' n c'] 31)
  refine (eqLineS_same A A' n c c' ls _ hn (hr.below hb0) (hr'.below hb0)).mono ?_
  rintro e w1 ⟨rfl, hb1⟩
  go_wp2
  go_ret
  exact ⟨rfl, hb0.trans (hb1.mono (by simp; omega))⟩
end Go.Proofs.Ytobbmnbkjeoheaa
