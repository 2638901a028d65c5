/- Conversions of the exact laws: slices of the struct Permit (written by program). -/
import Derived.Test.YtafgfhjlkdjngaaA3
import Derived.Test.YtafgfhjlkdjngaaBCC
import Derived.Test.YtafgfhjlkdjngaaSJ0
import Derived.Laws.MakeOwn
import Derived.OwnWalk
namespace Go.Proofs.Ytafgfhjlkdjngaa
open Go.ChangeShapes Go.WideShapes Go.ChangeAt Go.RowKit

theorem szPermitS_any (A : Option Addr) (n c : Nat) (left : Int) (h0 : 0 ≤ left) (h1 : left ≤ 1048576) (hn : n ≤ 9223372036854775807) (w : World) :
    Calls Try.prog 41 #[.slice A n c, .int .i64 left] w fun e w' => e = .returned (.int .i64 (if (n : Int) ≤ left then left - n else -1)) ∧ w = w' := by
  by_cases hc : (n : Int) ≤ left
  · go_enter Try.func41, Try.ntmps41
    go_wp2
    all_goals go_ret
    all_goals exact ⟨retI (by first | omega | simp [hc]), rfl⟩
  · go_enter Try.func41, Try.ntmps41
    go_wp2
    all_goals go_ret
    all_goals exact ⟨retI (by first | omega | simp [hc]), rfl⟩

theorem toPermit_any (x : Int) (y : Int) (w : World) :
    Calls Try.prog 57 #[.agg #[.int .i64 x, .int .i64 y]] w fun e w' => e = .returned (.agg #[.int .i64 x, .int .i64 y]) ∧ Below w.heap.size w w' := by
  go_enter Try.func57, Try.ntmps57
  go_wp2
  refine bodyPost_ret (v := .agg #[.int .i64 x, .int .i64 y]) (by simp [results, Try.results57, go_sem]) rfl ⟨rfl, ?_⟩
  repeat (first | exact Below.refl _ _ | refine Below.alloc ?_ (by simp; try omega) _)

theorem permitInfo1 : (Try.prog.info? 66).map (fun i => (i.zero, i.size, i.bytes)) = some (some (.agg #[.int .i64 0, .int .i64 0]), 2, 16) := by kernel_rfl
theorem makePermitS (n : Nat) (hn : n ≤ 1048576) (w : World) : (Instr.makeSlice 42 (.int .i64 (n : Int)) (.int .i64 (n : Int))).run Try.prog w = .ok (.slice (some ⟨w.heap.size, 0, none⟩) n n) (w.alloc (.cells (rowArr fJ (List.replicate n (0, 0))) 66)) := by
  obtain ⟨i0, hi, hz0, hz1, hz2⟩ := info_parts permitInfo1
  have := run_make (P := Try.prog) w 42 66 i0 _ Try.underlying42 hi hz0 .i64 .i64 n n (by omega) (by omega) (by rw [hz2]; omega) (by omega)
  rw [this, Int.toNat_natCast, hz1, madeCells_row (f := fJ) fJ_len (Value.agg #[.int .i64 0, .int .i64 0]).cells (0, 0) rfl (by omega)]

theorem toPermitS_any (A : Option Addr) (n c : Nat) (us : List TJ) (w : World) (hn : n ≤ 1048576) (hr : RowJ w A n us) :
    Calls Try.prog 45 #[.slice A n c] w fun e w' => ∃ g, e = .returned (.slice (some ⟨g, 0, none⟩) n n) ∧ Below w.heap.size w w' ∧ w.heap.size ≤ g ∧ IsBlk w' g 66 (rowArr fJ us) := by
  have hmk := makePermitS n hn
  have HL := Lib.hid hr.1
  have HR := Lib.hid hr
  clear hr
  go_enter Try.func45, Try.ntmps45
  go_wp2
  clear hmk
  go_loopw [4] (fun i wr => ∃ k : Nat, k ≤ n ∧ i = .int .i64 k ∧ Below w.heap.size w wr ∧ IsBlk wr w.heap.size 66 (rowArr fJ (us.take k ++ List.replicate (n - k) (0, 0)))) (fun i _ => n - (intOf i).toNat)
  case atStart =>
      exact ⟨0, by omega, rfl, below_bx _ _, by simpa using IsBlk.new w _ _⟩
  case round =>
      obtain ⟨k, hk, rfl, hbel, hblk⟩ := hrel
      by_cases hlt : k < n
      · obtain ⟨b, off, l, rfl, hb, hkl, g0, g1⟩ := HR.out.at_ hlt
        rw [← hbel.cell (p := ⟨b, off + k * 2, none⟩) hb] at g0
        rw [← hbel.cell (p := ⟨b, off + k * 2 + 1, none⟩) hb] at g1
        have hlen : (us.take k).length = k := by rw [List.length_take]; have := HL.out; omega
        obtain ⟨post, hpost⟩ : ∃ post, us.take k ++ List.replicate (n - k) (0, 0) = us.take k ++ (0, 0) :: post ∧ post = List.replicate (n - (k + 1)) ((0, 0) : TJ) := by
          refine ⟨_, ?_, rfl⟩
          rw [show n - k = (n - (k + 1)) + 1 by omega, List.replicate_succ]
        rw [hpost.1] at hblk
        have hnew : us.take (k + 1) ++ List.replicate (n - (k + 1)) (0, 0) = us.take k ++ l :: post := by
          rw [hpost.2, List.take_add_one, hkl]; simp
        have hput := putAll_row (f := fJ) fJ_len (us.take k) post (0, 0) l
        rw [hlen] at hput
        have hold : (us.take k ++ (0, 0) :: post)[k]? = some (0, 0) := by
          rw [List.getElem?_append_right (by omega), hlen]; simp
        have HN := Lib.hid hnew; clear hnew
        have HP := Lib.hid hput; clear hput
        have HB := Lib.hid hblk; clear hblk
        have HO := Lib.hid hold; clear hold hpost hlen hkl
        obtain ⟨x, y⟩ := l
        simp only at g0 g1
        go_wp2_with fail
        refine (toPermit_any x y _).mono ?_
        rintro e w1 ⟨rfl, hb1⟩
        have hblk1 := Lib.hid (HB.out.below hb1 HB.out.lt)
        have hget := rowArr_get (f := fJ) fJ_len HO.out
        have q0 : w1.cell? ⟨w.heap.size, k * 2, none⟩ = some (.int .i64 0) := (hblk1.out.cell _).trans (hget 0 (by omega))
        have q1 : w1.cell? ⟨w.heap.size, k * 2 + 1, none⟩ = some (.int .i64 0) := (hblk1.out.cell _).trans (hget 1 (by omega))
        have f0 : w1.frozen? ⟨w.heap.size, k * 2, none⟩ = false := hblk1.out.thaw _
        have f1 : w1.frozen? ⟨w.heap.size, k * 2 + 1, none⟩ = false := hblk1.out.thaw _
        clear hget
        go_wp2
        go_roundw
        case rel =>
          refine ⟨k + 1, by omega, by go_num, ((hbel.trans (hb1.mono hbel.size)).setCell (Nat.le_refl _) _).setCell (Nat.le_refl _) _, ?_⟩
          rw [HN.out, ← HP.out]
          exact (hblk1.out.put _ _).put _ _
        case measure => simp [intOf]; omega
      · go_wp2
        go_ret
        obtain rfl : k = n := by omega
        refine ⟨_, rfl, hbel, Nat.le_refl _, ?_⟩
        have := HL.out
        simpa [← this] using hblk

theorem eqPermit_same (x : Int) (y : Int) (w : World) :
    Calls Try.prog 59 #[.agg #[.int .i64 x, .int .i64 y], .agg #[.int .i64 x, .int .i64 y]] w fun e w' => e = .returned (.bool true) ∧ Below w.heap.size w w' := by
  go_enter Try.func59, Try.ntmps59
  go_wp2
  go_ret
  exact ⟨rfl, (below_bx _ _).alloc (by simp) _⟩

theorem eqPermitS_same (A A' : Option Addr) (n c c' : Nat) (us : List TJ) (w : World) (hn : n ≤ 1048576) (hr : RowJ w A n us) (hr' : RowJ w A' n us) :
    Calls Try.prog 49 #[.slice A n c, .slice A' n c'] w fun e w' => e = .returned (.bool true) ∧ Below w.heap.size w w' := by
  have HR := Lib.hid hr
  have HR' := Lib.hid hr'
  clear hr hr'
  go_enter Try.func49, Try.ntmps49
  go_wp2
  go_loopw [5] (fun i wr => ∃ k : Nat, k ≤ n ∧ i = .int .i64 k ∧ Below w.heap.size w wr) (fun i _ => n - (intOf i).toNat)
  case atStart => exact ⟨0, by omega, rfl, Below.refl _ _⟩
  case round =>
    obtain ⟨k, hk, rfl, hbel⟩ := hrel
    by_cases hlt : k < n
    · obtain ⟨b, off, l, rfl, hb, hkl, g0, g1⟩ := HR.out.at_ hlt
      obtain ⟨b', off', l', rfl, hb', hkl', e0, e1⟩ := HR'.out.at_ hlt
      rw [hkl] at hkl'
      injection hkl' with hkl'
      subst hkl'
      rw [← hbel.cell (p := ⟨b, off + k * 2, none⟩) hb] at g0
      rw [← hbel.cell (p := ⟨b, off + k * 2 + 1, none⟩) hb] at g1
      rw [← hbel.cell (p := ⟨b', off' + k * 2, none⟩) hb'] at e0
      rw [← hbel.cell (p := ⟨b', off' + k * 2 + 1, none⟩) hb'] at e1
      obtain ⟨x, y⟩ := l
      simp only at g0 g1 e0 e1
      clear hkl
      have hz : w.heap.size ≤ wr.heap.size := hbel.size
      have i0 : (0 : Int) ≤ (k : Int) := by omega
      have i1 : (k : Int) < (n : Int) := by omega
      go_wp2
      go_region_with (go_at_call 59; refine (eqPermit_same x y _).mono ?_; rintro e w1 ⟨rfl, hb1⟩)
      all_goals
        go_wp2
        go_roundw
        case rel => exact ⟨k + 1, by omega, by go_num, by first | exact hbel.trans (hb1.mono hz) | exact hbel.drew.trans (hb1.mono hz) | exact hbel.drew.drew.trans (hb1.mono hz)⟩
        case measure => simp [intOf]; omega
    · go_wp2
      go_ret
      exact ⟨rfl, hbel⟩

theorem markPermitS_any (g n c : Nat) (us : List TJ) (k0 : Int) (hk0 : 1 ≤ k0) (hk1 : k0 ≤ 100000000) (w : World) (hn : n ≤ 1048576) (hl : us.length = n) (hr : IsBlk w g 66 (rowArr fJ us)) :
    Calls Try.prog 51 #[.slice (some ⟨g, 0, none⟩) n c, .int .i64 k0] w fun e w' => e = .returned (.int .i64 (k0 + 2 * n)) ∧ w.grownBy w' (some g) := by
  have hsz0 : (rowArr fJ us).size = 2 * n := by
    subst hl; clear hr hn
    rw [rowArr, List.size_toArray, flat_len fJ_len]; omega
  generalize rowArr fJ us = arr at *
  have HR := Lib.hid hr
  have HS0 := Lib.hid hsz0
  clear hr hsz0 hl
  go_enter Try.func51, Try.ntmps51
  go_wp2
  go_loopw [5, 1] (fun i j wr => ∃ k : Nat, k ≤ n ∧ i = .int .i64 k ∧ j = .int .i64 (k0 + 2 * k) ∧ w.grownBy wr (some g) ∧ ∃ cu : Array Value, IsBlk wr g 66 cu ∧ cu.size = 2 * n) (fun i _ _ => n - (intOf i).toNat)
  case atStart => exact ⟨0, by omega, rfl, by first | rfl | (simp), World.grownBy.refl _ _, arr, HR.out, HS0.out⟩
  case round =>
    obtain ⟨k, hk, rfl, rfl, hgr, cu, hblk, hsz⟩ := hrel
    by_cases hlt : k < n
    · have one : ∀ j, j < 2 * n → ∃ u, wr.cell? ⟨g, j, none⟩ = some u := fun j hj => ⟨cu[j]'(by omega), (hblk.cell j).trans (Array.getElem?_eq_getElem (by omega))⟩
      obtain ⟨u0, c0⟩ := one (k * 2) (by omega)
      obtain ⟨u1, c1⟩ := one (k * 2 + 1) (by omega)
      have f0 : wr.frozen? ⟨g, k * 2, none⟩ = false := hblk.thaw _
      have f1 : wr.frozen? ⟨g, k * 2 + 1, none⟩ = false := hblk.thaw _
      have HB := Lib.hid hblk
      have HS := Lib.hid hsz
      clear hblk hsz one
      go_wp2
      go_roundw
      case rel =>
        refine ⟨k + 1, by omega, by go_num, by go_num, grown_then (grown_then hgr (grown_put _ _ _ _)) (grown_put _ _ _ _), _, (HB.out.put _ _).put _ _, by simp [HS.out]⟩
      case measure => simp [intOf]; omega
    · go_wp2
      go_ret
      obtain rfl : k = n := by omega
      exact ⟨rfl, hgr⟩

end Go.Proofs.Ytafgfhjlkdjngaa
