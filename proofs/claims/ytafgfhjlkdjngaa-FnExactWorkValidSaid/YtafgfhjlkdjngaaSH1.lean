/- Conversions of the exact laws: slices of the struct WorkDeed (written by program). -/
import Derived.Test.YtafgfhjlkdjngaaA3
import Derived.Test.YtafgfhjlkdjngaaBCC
import Derived.Test.YtafgfhjlkdjngaaSH0
import Derived.Laws.MakeOwn
import Derived.OwnWalk
namespace Go.Proofs.Ytafgfhjlkdjngaa
open Go.ChangeShapes Go.WideShapes Go.ChangeAt Go.RowKit

theorem workDeedInfo1 : (Try.prog.info? 75).map (fun i => (i.zero, i.size, i.bytes)) = some (some (.agg #[.int .i64 0, .int .i64 0, .int .i64 0]), 3, 24) := by kernel_rfl
theorem makeWorkDeedS (n : Nat) (hn : n ≤ 1048576) (w : World) : (Instr.makeSlice 51 (.int .i64 (n : Int)) (.int .i64 (n : Int))).run Try.prog w = .ok (.slice (some ⟨w.heap.size, 0, none⟩) n n) (w.alloc (.cells (rowArr fH (List.replicate n (0, 0, 0))) 75)) := by
  obtain ⟨i0, hi, hz0, hz1, hz2⟩ := info_parts workDeedInfo1
  have := run_make (P := Try.prog) w 51 75 i0 _ Try.underlying51 hi hz0 .i64 .i64 n n (by omega) (by omega) (by rw [hz2]; omega) (by omega)
  rw [this, Int.toNat_natCast, hz1, madeCells_row (f := fH) fH_len (Value.agg #[.int .i64 0, .int .i64 0, .int .i64 0]).cells (0, 0, 0) rfl (by omega)]

theorem eqWorkDeed_same (x : Int) (y : Int) (z : Int) (w : World) :
    Calls Try.prog 53 #[.agg #[.int .i64 x, .int .i64 y, .int .i64 z], .agg #[.int .i64 x, .int .i64 y, .int .i64 z]] w fun e w' => e = .returned (.bool true) ∧ Below w.heap.size w w' := by
  go_enter Try.func53, Try.ntmps53
  go_wp2
  go_ret
  exact ⟨rfl, (below_bx _ _).alloc (by simp) _⟩

theorem eqWorkDeedS_same (A A' : Option Addr) (n c c' : Nat) (us : List TH) (w : World) (hn : n ≤ 1048576) (hr : RowH w A n us) (hr' : RowH w A' n us) :
    Calls Try.prog 28 #[.slice A n c, .slice A' n c'] w fun e w' => e = .returned (.bool true) ∧ Below w.heap.size w w' := by
  have HR := Lib.hid hr
  have HR' := Lib.hid hr'
  clear hr hr'
  go_enter Try.func28, Try.ntmps28
  go_wp2
  go_loopw [5] (fun i wr => ∃ k : Nat, k ≤ n ∧ i = .int .i64 k ∧ Below w.heap.size w wr) (fun i _ => n - (intOf i).toNat)
  case atStart => exact ⟨0, by omega, rfl, Below.refl _ _⟩
  case round =>
    obtain ⟨k, hk, rfl, hbel⟩ := hrel
    by_cases hlt : k < n
    · obtain ⟨b, off, l, rfl, hb, hkl, g0, g1, g2⟩ := HR.out.at_ hlt
      obtain ⟨b', off', l', rfl, hb', hkl', e0, e1, e2⟩ := HR'.out.at_ hlt
      rw [hkl] at hkl'
      injection hkl' with hkl'
      subst hkl'
      rw [← hbel.cell (p := ⟨b, off + k * 3, none⟩) hb] at g0
      rw [← hbel.cell (p := ⟨b, off + k * 3 + 1, none⟩) hb] at g1
      rw [← hbel.cell (p := ⟨b, off + k * 3 + 2, none⟩) hb] at g2
      rw [← hbel.cell (p := ⟨b', off' + k * 3, none⟩) hb'] at e0
      rw [← hbel.cell (p := ⟨b', off' + k * 3 + 1, none⟩) hb'] at e1
      rw [← hbel.cell (p := ⟨b', off' + k * 3 + 2, none⟩) hb'] at e2
      obtain ⟨x, y, z⟩ := l
      simp only at g0 g1 g2 e0 e1 e2
      clear hkl
      have hz : w.heap.size ≤ wr.heap.size := hbel.size
      have i0 : (0 : Int) ≤ (k : Int) := by omega
      have i1 : (k : Int) < (n : Int) := by omega
      go_wp2
      go_region_with (go_at_call 53; refine (eqWorkDeed_same x y z _).mono ?_; rintro e w1 ⟨rfl, hb1⟩)
      all_goals
        go_wp2
        go_roundw
        case rel => exact ⟨k + 1, by omega, by go_num, by first | exact hbel.trans (hb1.mono hz) | exact hbel.drew.trans (hb1.mono hz) | exact hbel.drew.drew.trans (hb1.mono hz)⟩
        case measure => simp [intOf]; omega
    · go_wp2
      go_ret
      exact ⟨rfl, hbel⟩

theorem markWorkDeedS_any (g n c : Nat) (us : List TH) (k0 : Int) (hk0 : 1 ≤ k0) (hk1 : k0 ≤ 100000000) (w : World) (hn : n ≤ 1048576) (hl : us.length = n) (hr : IsBlk w g 75 (rowArr fH us)) :
    Calls Try.prog 29 #[.slice (some ⟨g, 0, none⟩) n c, .int .i64 k0] w fun e w' => e = .returned (.int .i64 (k0 + 3 * n)) ∧ w.grownBy w' (some g) := by
  have hsz0 : (rowArr fH us).size = 3 * n := by
    subst hl; clear hr hn
    rw [rowArr, List.size_toArray, flat_len fH_len]; omega
  generalize rowArr fH us = arr at *
  have HR := Lib.hid hr
  have HS0 := Lib.hid hsz0
  clear hr hsz0 hl
  go_enter Try.func29, Try.ntmps29
  go_wp2
  go_loopw [5, 1] (fun i j wr => ∃ k : Nat, k ≤ n ∧ i = .int .i64 k ∧ j = .int .i64 (k0 + 3 * k) ∧ w.grownBy wr (some g) ∧ ∃ cu : Array Value, IsBlk wr g 75 cu ∧ cu.size = 3 * n) (fun i _ _ => n - (intOf i).toNat)
  case atStart => exact ⟨0, by omega, rfl, by first | rfl | (simp), World.grownBy.refl _ _, arr, HR.out, HS0.out⟩
  case round =>
    obtain ⟨k, hk, rfl, rfl, hgr, cu, hblk, hsz⟩ := hrel
    by_cases hlt : k < n
    · have one : ∀ j, j < 3 * n → ∃ u, wr.cell? ⟨g, j, none⟩ = some u := fun j hj => ⟨cu[j]'(by omega), (hblk.cell j).trans (Array.getElem?_eq_getElem (by omega))⟩
      obtain ⟨u0, c0⟩ := one (k * 3) (by omega)
      obtain ⟨u1, c1⟩ := one (k * 3 + 1) (by omega)
      obtain ⟨u2, c2⟩ := one (k * 3 + 2) (by omega)
      have f0 : wr.frozen? ⟨g, k * 3, none⟩ = false := hblk.thaw _
      have f1 : wr.frozen? ⟨g, k * 3 + 1, none⟩ = false := hblk.thaw _
      have f2 : wr.frozen? ⟨g, k * 3 + 2, none⟩ = false := hblk.thaw _
      have HB := Lib.hid hblk
      have HS := Lib.hid hsz
      clear hblk hsz one
      go_wp2
      go_roundw
      case rel =>
        refine ⟨k + 1, by omega, by go_num, by go_num, grown_then (grown_then (grown_then hgr (grown_put _ _ _ _)) (grown_put _ _ _ _)) (grown_put _ _ _ _), _, ((HB.out.put _ _).put _ _).put _ _, by simp [HS.out]⟩
      case measure => simp [intOf]; omega
    · go_wp2
      go_ret
      obtain rfl : k = n := by omega
      exact ⟨rfl, hgr⟩

end Go.Proofs.Ytafgfhjlkdjngaa
