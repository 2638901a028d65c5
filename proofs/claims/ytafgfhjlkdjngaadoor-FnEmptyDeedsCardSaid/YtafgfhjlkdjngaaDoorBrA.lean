/- Busbars: MoveDeeds of the model (written by program). -/
import Derived.Test.YtafgfhjlkdjngaaDoorBr7
namespace Go.Proofs.YtafgfhjlkdjngaaDoor
open Go.ChangeShapes Go.WideShapes Go.ChangeAt Go.RowKit

theorem ownLitR (w : World) : OwnI 3 (w.alloc (.cells #[] 3)) w.heap.size (.slice (some ⟨w.heap.size, 0, none⟩) 0 0) [] := by
  have := World.ownsRow_lit (base := w.heap.size) (size := 1) (e := 3) w #[] 0 (Nat.le_refl _) (by decide) rfl
  simpa [OwnI] using this
set_option maxRecDepth 100000 in
set_option maxHeartbeats 8000000 in
theorem specMoveDeeds_any (A : Option Addr) (n c : Nat) (ss : List Int) (cp : Bool) (bay bar : Int) (w : World) (hn : n ≤ 1048576) (hr : RowZ w A n ss) :
    Calls Tryd.prog 52 #[.agg #[.slice A n c, .bool cp], .int .i64 bay, .int .i64 bar] w fun e w' => ∃ v, e = .returned v ∧ OwnI 3 w' w.heap.size v (movF (ss, cp) bay bar) ∧ Below w.heap.size w w' := by
  have HR := Lib.hid hr
  have HL := Lib.hid hr.len
  obtain ⟨i0, hi, hz0, hz1, hz2⟩ := info_parts intInfo6
  have HI := Lib.hid hi
  clear hi hr
  have S0 := Lib.hid (show MvSt w ((w.alloc (.cells #[.slice A n c, .bool cp] 25)).alloc (.cells #[] 3)) #[.slice A n c, .bool cp] (.slice (some ⟨w.heap.size + 1, 0, none⟩) 0 0) [] from ⟨by have := ownLitR (w.alloc (.cells #[.slice A n c, .bool cp] 25)); simpa using this, (below_bx w _).alloc (by simp) _, (IsBlk.new w _ _).alloc _⟩)
  by_cases hok : brsOk (ss, cp) = true
  rotate_left
  · rw [Bool.not_eq_true] at hok
    have HB := Lib.hid (show movB (ss, cp) bay bar = false by rw [movB, hok]; rfl)
    go_enter Tryd.func52, Tryd.ntmps52
    obtain ⟨p0, p1, -⟩ := S0.out.box.two
    go_wp2_with fail
    refine (specBarsValid_any _ n c ss _ _ hn (HR.out.below S0.out.bel)).mono ?_
    rintro e w1 ⟨rfl, hb1⟩
    rw [hok]
    have S1 := Lib.hid (S0.out.next hb1)
    clear p0 p1 hb1 S0
    obtain ⟨p0, p1, -⟩ := S1.out.box.two
    go_wp2
    go_ret
    exact ⟨_, rfl, by rw [mov_keep HB.out]; exact OwnI.moreR S1.out.own (by omega), S1.out.bel⟩
  have hn6 : 1 ≤ n ∧ n ≤ 6 := by have := brs_len hok; rw [← HL.out]; exact this
  obtain ⟨hn1, hn6⟩ := hn6
  have hn1' : (1 : Int) ≤ (n : Int) := by omega
  have hn6' : (n : Int) ≤ 6 := by omega
  by_cases hbay : inB bay 0 ((n : Int) - 1) = true
  rotate_left
  · rw [Bool.not_eq_true] at hbay
    have HB := Lib.hid (show movB (ss, cp) bay bar = false by rw [movB]; simp only; rw [HL.out, hbay, Bool.and_false]; rfl)
    go_enter Tryd.func52, Tryd.ntmps52
    obtain ⟨p0, p1, -⟩ := S0.out.box.two
    go_wp2_with fail
    refine (specBarsValid_any _ n c ss _ _ hn (HR.out.below S0.out.bel)).mono ?_
    rintro e w1 ⟨rfl, hb1⟩
    rw [hok]
    have S1 := Lib.hid (S0.out.next hb1)
    clear p0 p1 hb1 S0
    obtain ⟨p0, p1, -⟩ := S1.out.box.two
    go_wp2_with fail
    refine (l1In_any _ _ _ _).mono ?_
    rintro e w' ⟨rfl, rfl⟩
    rw [hbay]
    go_wp2
    go_ret
    exact ⟨_, rfl, by rw [mov_keep HB.out]; exact OwnI.moreR S1.out.own (by omega), S1.out.bel⟩
  by_cases hbar : inB bar 1 2 = true
  rotate_left
  · rw [Bool.not_eq_true] at hbar
    have HB := Lib.hid (show movB (ss, cp) bay bar = false by rw [movB, hbar, Bool.and_false]; rfl)
    go_enter Tryd.func52, Tryd.ntmps52
    obtain ⟨p0, p1, -⟩ := S0.out.box.two
    go_wp2_with fail
    refine (specBarsValid_any _ n c ss _ _ hn (HR.out.below S0.out.bel)).mono ?_
    rintro e w1 ⟨rfl, hb1⟩
    rw [hok]
    have S1 := Lib.hid (S0.out.next hb1)
    clear p0 p1 hb1 S0
    obtain ⟨p0, p1, -⟩ := S1.out.box.two
    go_wp2_with fail
    refine (l1In_any _ _ _ _).mono ?_
    rintro e w' ⟨rfl, rfl⟩
    rw [hbay]
    go_wp2_with fail
    refine (l1In_any _ _ _ _).mono ?_
    rintro e w' ⟨rfl, rfl⟩
    rw [hbar]
    go_wp2
    go_ret
    exact ⟨_, rfl, by rw [mov_keep HB.out]; exact OwnI.moreR S1.out.own (by omega), S1.out.bel⟩
  obtain ⟨k, rfl⟩ := Int.eq_ofNat_of_zero_le (show 0 ≤ bay by simp only [inB, Bool.and_eq_true, decide_eq_true_eq] at hbay; omega)
  obtain ⟨j, rfl⟩ := Int.eq_ofNat_of_zero_le (show 0 ≤ bar by simp only [inB, Bool.and_eq_true, decide_eq_true_eq] at hbar; omega)
  have hkn : k < n := by simp only [inB, Bool.and_eq_true, decide_eq_true_eq] at hbay; omega
  have hj : j = 1 ∨ j = 2 := by simp only [inB, Bool.and_eq_true, decide_eq_true_eq] at hbar; omega
  have hj1 : (1 : Int) ≤ (j : Int) := by omega
  have hj2 : (j : Int) ≤ 2 := by omega
  have ii0 : (0 : Int) ≤ (k : Int) := by omega
  have ii1 : (k : Int) < (n : Int) := by omega
  obtain ⟨b, off, s, rfl, hb, hs, g0⟩ := HR.out.at_ hkn
  have hg : ss.getD k 0 = s := by rw [List.getD_eq_getElem?_getD, hs]; rfl
  have hsi := side_in (brs_side hok hs)
  by_cases hsj : s = (j : Int)
  · subst hsj
    have HB := Lib.hid (show movB (ss, cp) (k : Int) (j : Int) = false by rw [movB, Int.toNat_natCast]; simp only; rw [hg]; simp)
    clear hg hsi hs hj
    go_enter Tryd.func52, Tryd.ntmps52
    obtain ⟨p0, p1, -⟩ := S0.out.box.two
    go_wp2_with fail
    refine (specBarsValid_any _ n c ss _ _ hn (HR.out.below S0.out.bel)).mono ?_
    rintro e w1 ⟨rfl, hb1⟩
    rw [hok]
    have S1 := Lib.hid (S0.out.next hb1)
    clear p0 p1 hb1 S0
    obtain ⟨p0, p1, -⟩ := S1.out.box.two
    replace g0 := (S1.out.bel.cell (p := ⟨b, off + k, none⟩) hb).trans g0
    go_wp2_with fail
    refine (l1In_any _ _ _ _).mono ?_
    rintro e w' ⟨rfl, rfl⟩
    rw [hbay]
    go_wp2_with fail
    refine (l1In_any _ _ _ _).mono ?_
    rintro e w' ⟨rfl, rfl⟩
    rw [hbar]
    go_wp2
    go_ret
    exact ⟨_, rfl, by rw [mov_keep HB.out]; exact OwnI.moreR S1.out.own (by omega), S1.out.bel⟩
  have hne : (s == (j : Int)) = false := by simpa using hsj
  have HB := Lib.hid (show movB (ss, cp) (k : Int) (j : Int) = true by rw [movB, hok, hbar, Int.toNat_natCast]; simp only; rw [hg, HL.out, hbay, hne]; rfl)
  have HMV := Lib.hid (show movF (ss, cp) (k : Int) (j : Int) = ((if cp = true then [] else [1]) ++ (if s = 3 then [] else [4 * (k : Int) + 2 * (j : Int) + 1])) ++ [4 * (k : Int) + 2 * (3 - (j : Int))] ++ (if cp = true then [] else [0]) by rw [movF, if_pos HB.out, Int.toNat_natCast]; simp only; rw [hg])
  have HS3 := Lib.hid hsi.2.2
  clear hg hsi hs hj hsj
  have G0 := Lib.hid g0
  cases cp
  · have hs3 := HS3.out rfl
    have HMW := Lib.hid (show movF (ss, false) (k : Int) (j : Int) = ([] : List Int) ++ [1] ++ [4 * (k : Int) + 2 * (j : Int) + 1] ++ [4 * (k : Int) + 2 * (3 - (j : Int))] ++ [0] by have h := HMV.out; simp only [Bool.false_eq_true, if_false, hs3] at h; exact h)
    clear HMV
    have hn3 : (s == 3) = false := by simpa using hs3
    clear hs3
    go_enter Tryd.func52, Tryd.ntmps52
    obtain ⟨p0, p1, -⟩ := S0.out.box.two
    go_wp2_with fail
    refine (specBarsValid_any _ n c ss _ _ hn (HR.out.below S0.out.bel)).mono ?_
    rintro e w1 ⟨rfl, hb1⟩
    rw [hok]
    have S1 := Lib.hid (S0.out.next hb1)
    clear p0 p1 hb1 S0
    obtain ⟨p0, p1, -⟩ := S1.out.box.two
    replace g0 := (S1.out.bel.cell (p := ⟨b, off + k, none⟩) hb).trans g0
    go_wp2_with fail
    refine (l1In_any _ _ _ _).mono ?_
    rintro e w' ⟨rfl, rfl⟩
    rw [hbay]
    go_wp2_with fail
    refine (l1In_any _ _ _ _).mono ?_
    rintro e w' ⟨rfl, rfl⟩
    rw [hbar]
    go_upto_region 5 with fail
    clear g0 p0 p1
    go_upto_region 6 with (
    at_builtin
    refine wpList_append_own _ rfl _ _ _ rfl (w.heap.size + 1) 3 i0 (.int .i64 0) 1 8 Tryd.underlying23 HI.out hz0 hz1 hz2 rfl (by decide) _ _ _ rfl (World.ownsRow.alloc S1.out.own _) ⟨w1.heap.size, 0, none⟩ 1 1 [.int .i64 (1)] rfl rfl ?c1 ?c2 ?c3 ?c4 ?c5 ?_
    case c1 => exact cell_one_new _ _ _
    case c2 => intro u hu; simp at hu; subst hu; rfl
    case c3 => simp [maxLen]
    case c4 => simp
    case c5 => have := S1.out.box.lt; simp; omega
    intro v_S2 w_S2 hown' hgrow _
    have S2 := Lib.hid (S1.out.push (ds' := ([] : List Int) ++ [1]) (.cells #[.int .i64 (1)] 3) (by simpa [OwnI] using hown') hgrow))
    clear S1
    have g_S2 : w_S2.cell? ⟨b, off + k, none⟩ = _ := (S2.out.bel.cell (p := ⟨b, off + k, none⟩) hb).trans G0.out
    obtain ⟨p0_S2, p1_S2, -⟩ := S2.out.box.two
    go_upto_region 7 with fail
    have hnum : (2 : Int) + 4 * (k : Int) + 2 * ((j : Int) - 1) + 1 = 4 * (k : Int) + 2 * (j : Int) + 1 := by omega
    clear g_S2 p0_S2 p1_S2
    go_upto_region 8 with (
    at_builtin
    refine wpList_append_own _ rfl _ _ _ rfl (w.heap.size + 1) 3 i0 (.int .i64 0) 1 8 Tryd.underlying23 HI.out hz0 hz1 hz2 rfl (by decide) _ _ _ rfl (World.ownsRow.alloc S2.out.own _) ⟨w_S2.heap.size, 0, none⟩ 1 1 [.int .i64 (4 * (k : Int) + 2 * (j : Int) + 1)] rfl rfl ?c1 ?c2 ?c3 ?c4 ?c5 ?_
    case c1 => exact cell_one_new _ _ _
    case c2 => intro u hu; simp at hu; subst hu; rfl
    case c3 => simp [maxLen]
    case c4 => simp
    case c5 => have := S2.out.box.lt; simp; omega
    intro v_S3 w_S3 hown' hgrow _
    have S3 := Lib.hid (S2.out.push (ds' := ([] : List Int) ++ [1] ++ [4 * (k : Int) + 2 * (j : Int) + 1]) (.cells #[.int .i64 (4 * (k : Int) + 2 * (j : Int) + 1)] 3) (by simpa [OwnI] using hown') hgrow))
    clear S2
    have g_S3 : w_S3.cell? ⟨b, off + k, none⟩ = _ := (S3.out.bel.cell (p := ⟨b, off + k, none⟩) hb).trans G0.out
    obtain ⟨p0_S3, p1_S3, -⟩ := S3.out.box.two
    go_upto_region 8 with fail
    have hnum2 : (2 : Int) + 4 * (k : Int) + 2 * (2 - (j : Int)) = 4 * (k : Int) + 2 * (3 - (j : Int)) := by omega
    clear g_S3 p0_S3 p1_S3
    go_upto_region 9 with (
    at_builtin
    refine wpList_append_own _ rfl _ _ _ rfl (w.heap.size + 1) 3 i0 (.int .i64 0) 1 8 Tryd.underlying23 HI.out hz0 hz1 hz2 rfl (by decide) _ _ _ rfl (World.ownsRow.alloc S3.out.own _) ⟨w_S3.heap.size, 0, none⟩ 1 1 [.int .i64 (4 * (k : Int) + 2 * (3 - (j : Int)))] rfl rfl ?c1 ?c2 ?c3 ?c4 ?c5 ?_
    case c1 => exact cell_one_new _ _ _
    case c2 => intro u hu; simp at hu; subst hu; rfl
    case c3 => simp [maxLen]
    case c4 => simp
    case c5 => have := S3.out.box.lt; simp; omega
    intro v_S4 w_S4 hown' hgrow _
    have S4 := Lib.hid (S3.out.push (ds' := ([] : List Int) ++ [1] ++ [4 * (k : Int) + 2 * (j : Int) + 1] ++ [4 * (k : Int) + 2 * (3 - (j : Int))]) (.cells #[.int .i64 (4 * (k : Int) + 2 * (3 - (j : Int)))] 3) (by simpa [OwnI] using hown') hgrow))
    clear S3
    have g_S4 : w_S4.cell? ⟨b, off + k, none⟩ = _ := (S4.out.bel.cell (p := ⟨b, off + k, none⟩) hb).trans G0.out
    obtain ⟨p0_S4, p1_S4, -⟩ := S4.out.box.two
    go_upto_region 10 with fail
    clear g_S4 p0_S4 p1_S4
    go_upto_region 11 with (
    at_builtin
    refine wpList_append_own _ rfl _ _ _ rfl (w.heap.size + 1) 3 i0 (.int .i64 0) 1 8 Tryd.underlying23 HI.out hz0 hz1 hz2 rfl (by decide) _ _ _ rfl (World.ownsRow.alloc S4.out.own _) ⟨w_S4.heap.size, 0, none⟩ 1 1 [.int .i64 (0)] rfl rfl ?c1 ?c2 ?c3 ?c4 ?c5 ?_
    case c1 => exact cell_one_new _ _ _
    case c2 => intro u hu; simp at hu; subst hu; rfl
    case c3 => simp [maxLen]
    case c4 => simp
    case c5 => have := S4.out.box.lt; simp; omega
    intro v_S5 w_S5 hown' hgrow _
    have S5 := Lib.hid (S4.out.push (ds' := ([] : List Int) ++ [1] ++ [4 * (k : Int) + 2 * (j : Int) + 1] ++ [4 * (k : Int) + 2 * (3 - (j : Int))] ++ [0]) (.cells #[.int .i64 (0)] 3) (by simpa [OwnI] using hown') hgrow))
    clear S4
    go_wp2
    go_ret
    exact ⟨_, rfl, by rw [HMW.out]; exact OwnI.moreR S5.out.own (by omega), S5.out.bel⟩
  · by_cases hs3 : s = 3
    · skip
      have HMW := Lib.hid (show movF (ss, true) (k : Int) (j : Int) = ([] : List Int) ++ [4 * (k : Int) + 2 * (3 - (j : Int))] by have h := HMV.out; simp only [if_true, hs3] at h; exact h)
      clear HMV
      subst hs3
      go_enter Tryd.func52, Tryd.ntmps52
      obtain ⟨p0, p1, -⟩ := S0.out.box.two
      go_wp2_with fail
      refine (specBarsValid_any _ n c ss _ _ hn (HR.out.below S0.out.bel)).mono ?_
      rintro e w1 ⟨rfl, hb1⟩
      rw [hok]
      have S1 := Lib.hid (S0.out.next hb1)
      clear p0 p1 hb1 S0
      obtain ⟨p0, p1, -⟩ := S1.out.box.two
      replace g0 := (S1.out.bel.cell (p := ⟨b, off + k, none⟩) hb).trans g0
      go_wp2_with fail
      refine (l1In_any _ _ _ _).mono ?_
      rintro e w' ⟨rfl, rfl⟩
      rw [hbay]
      go_wp2_with fail
      refine (l1In_any _ _ _ _).mono ?_
      rintro e w' ⟨rfl, rfl⟩
      rw [hbar]
      go_upto_region 8 with fail
      have hnum2 : (2 : Int) + 4 * (k : Int) + 2 * (2 - (j : Int)) = 4 * (k : Int) + 2 * (3 - (j : Int)) := by omega
      clear g0 p0 p1
      go_upto_region 9 with (
      at_builtin
      refine wpList_append_own _ rfl _ _ _ rfl (w.heap.size + 1) 3 i0 (.int .i64 0) 1 8 Tryd.underlying23 HI.out hz0 hz1 hz2 rfl (by decide) _ _ _ rfl (World.ownsRow.alloc S1.out.own _) ⟨w1.heap.size, 0, none⟩ 1 1 [.int .i64 (4 * (k : Int) + 2 * (3 - (j : Int)))] rfl rfl ?c1 ?c2 ?c3 ?c4 ?c5 ?_
      case c1 => exact cell_one_new _ _ _
      case c2 => intro u hu; simp at hu; subst hu; rfl
      case c3 => simp [maxLen]
      case c4 => simp
      case c5 => have := S1.out.box.lt; simp; omega
      intro v_S4 w_S4 hown' hgrow _
      have S4 := Lib.hid (S1.out.push (ds' := ([] : List Int) ++ [4 * (k : Int) + 2 * (3 - (j : Int))]) (.cells #[.int .i64 (4 * (k : Int) + 2 * (3 - (j : Int)))] 3) (by simpa [OwnI] using hown') hgrow))
      clear S1
      have g_S4 : w_S4.cell? ⟨b, off + k, none⟩ = _ := (S4.out.bel.cell (p := ⟨b, off + k, none⟩) hb).trans G0.out
      obtain ⟨p0_S4, p1_S4, -⟩ := S4.out.box.two
      go_wp2
      go_ret
      exact ⟨_, rfl, by rw [HMW.out]; exact OwnI.moreR S4.out.own (by omega), S4.out.bel⟩
    · skip
      have HMW := Lib.hid (show movF (ss, true) (k : Int) (j : Int) = ([] : List Int) ++ [4 * (k : Int) + 2 * (j : Int) + 1] ++ [4 * (k : Int) + 2 * (3 - (j : Int))] by have h := HMV.out; simp only [if_false, if_true, hs3] at h; exact h)
      clear HMV
      have hn3 : (s == 3) = false := by simpa using hs3
      clear hs3
      go_enter Tryd.func52, Tryd.ntmps52
      obtain ⟨p0, p1, -⟩ := S0.out.box.two
      go_wp2_with fail
      refine (specBarsValid_any _ n c ss _ _ hn (HR.out.below S0.out.bel)).mono ?_
      rintro e w1 ⟨rfl, hb1⟩
      rw [hok]
      have S1 := Lib.hid (S0.out.next hb1)
      clear p0 p1 hb1 S0
      obtain ⟨p0, p1, -⟩ := S1.out.box.two
      replace g0 := (S1.out.bel.cell (p := ⟨b, off + k, none⟩) hb).trans g0
      go_wp2_with fail
      refine (l1In_any _ _ _ _).mono ?_
      rintro e w' ⟨rfl, rfl⟩
      rw [hbay]
      go_wp2_with fail
      refine (l1In_any _ _ _ _).mono ?_
      rintro e w' ⟨rfl, rfl⟩
      rw [hbar]
      go_upto_region 7 with fail
      have hnum : (2 : Int) + 4 * (k : Int) + 2 * ((j : Int) - 1) + 1 = 4 * (k : Int) + 2 * (j : Int) + 1 := by omega
      clear g0 p0 p1
      go_upto_region 8 with (
      at_builtin
      refine wpList_append_own _ rfl _ _ _ rfl (w.heap.size + 1) 3 i0 (.int .i64 0) 1 8 Tryd.underlying23 HI.out hz0 hz1 hz2 rfl (by decide) _ _ _ rfl (World.ownsRow.alloc S1.out.own _) ⟨w1.heap.size, 0, none⟩ 1 1 [.int .i64 (4 * (k : Int) + 2 * (j : Int) + 1)] rfl rfl ?c1 ?c2 ?c3 ?c4 ?c5 ?_
      case c1 => exact cell_one_new _ _ _
      case c2 => intro u hu; simp at hu; subst hu; rfl
      case c3 => simp [maxLen]
      case c4 => simp
      case c5 => have := S1.out.box.lt; simp; omega
      intro v_S3 w_S3 hown' hgrow _
      have S3 := Lib.hid (S1.out.push (ds' := ([] : List Int) ++ [4 * (k : Int) + 2 * (j : Int) + 1]) (.cells #[.int .i64 (4 * (k : Int) + 2 * (j : Int) + 1)] 3) (by simpa [OwnI] using hown') hgrow))
      clear S1
      have g_S3 : w_S3.cell? ⟨b, off + k, none⟩ = _ := (S3.out.bel.cell (p := ⟨b, off + k, none⟩) hb).trans G0.out
      obtain ⟨p0_S3, p1_S3, -⟩ := S3.out.box.two
      go_upto_region 8 with fail
      have hnum2 : (2 : Int) + 4 * (k : Int) + 2 * (2 - (j : Int)) = 4 * (k : Int) + 2 * (3 - (j : Int)) := by omega
      clear g_S3 p0_S3 p1_S3
      go_upto_region 9 with (
      at_builtin
      refine wpList_append_own _ rfl _ _ _ rfl (w.heap.size + 1) 3 i0 (.int .i64 0) 1 8 Tryd.underlying23 HI.out hz0 hz1 hz2 rfl (by decide) _ _ _ rfl (World.ownsRow.alloc S3.out.own _) ⟨w_S3.heap.size, 0, none⟩ 1 1 [.int .i64 (4 * (k : Int) + 2 * (3 - (j : Int)))] rfl rfl ?c1 ?c2 ?c3 ?c4 ?c5 ?_
      case c1 => exact cell_one_new _ _ _
      case c2 => intro u hu; simp at hu; subst hu; rfl
      case c3 => simp [maxLen]
      case c4 => simp
      case c5 => have := S3.out.box.lt; simp; omega
      intro v_S4 w_S4 hown' hgrow _
      have S4 := Lib.hid (S3.out.push (ds' := ([] : List Int) ++ [4 * (k : Int) + 2 * (j : Int) + 1] ++ [4 * (k : Int) + 2 * (3 - (j : Int))]) (.cells #[.int .i64 (4 * (k : Int) + 2 * (3 - (j : Int)))] 3) (by simpa [OwnI] using hown') hgrow))
      clear S3
      have g_S4 : w_S4.cell? ⟨b, off + k, none⟩ = _ := (S4.out.bel.cell (p := ⟨b, off + k, none⟩) hb).trans G0.out
      obtain ⟨p0_S4, p1_S4, -⟩ := S4.out.box.two
      go_wp2
      go_ret
      exact ⟨_, rfl, by rw [HMW.out]; exact OwnI.moreR S4.out.own (by omega), S4.out.bel⟩
end Go.Proofs.YtafgfhjlkdjngaaDoor
