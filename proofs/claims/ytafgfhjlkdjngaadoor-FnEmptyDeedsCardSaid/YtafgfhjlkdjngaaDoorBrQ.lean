/- Busbars: the promise of EmptyDeeds: the walk. -/
import Derived.Test.YtafgfhjlkdjngaaDoorBrK
import Derived.Test.YtafgfhjlkdjngaaDoorBrO
import Derived.Test.YtafgfhjlkdjngaaDoorBrD
namespace Go.Proofs.YtafgfhjlkdjngaaDoor
open Go.ChangeShapes Go.WideShapes Go.ChangeAt Go.RowKit

theorem emp_all {b : BB} {bar : Int} (h : empB b bar = true) : ∃ x : BB, brF b (empF b bar) = (x, (empF b bar).length) ∧ x.2 = b.2 ∧ x.1.length = b.1.length ∧ ∀ (i : Nat) (s : Int), x.1[i]? = some s → s = 3 - bar := by
  have hr := emp_run h b.1.length (Nat.le_refl _)
  have hok : brsOk b = true := by simp only [empB, Bool.and_eq_true] at h; exact h.1
  have hl := emp_len b bar b.1.length
  refine ⟨(empN b bar b.1.length).1, ?_, hr.2.1, hl, fun i s hs => ?_⟩
  · rw [brF, if_pos hok, empF, if_pos h, hr.1]
  · have hi : i < b.1.length := by rw [← hl]; exact (List.getElem?_eq_some_iff.1 hs).1
    have := hr.2.2 i
    rw [if_pos hi, hs] at this
    injection this
theorem emp_none {b : BB} {bar : Int} (h : empB b bar = false) : empF b bar = [] := by rw [empF, if_neg (by rw [h]; simp)]

set_option maxRecDepth 100000 in
set_option maxHeartbeats 8000000 in
theorem lawEmptyDeeds_walk (w : World) (A : Option Addr) (n c : Nat) (code : List Int) (hr : RowB w A n code) (hnc : n ≤ c) (hc : c ≤ 9223372036854775807) :
    Calls Tryd.prog 12 #[.slice A n c] w fun x w' => x = .returned (.bool true) ∧ Below w.heap.size w w' := by
  by_cases hbig : 1048576 < n
  · go_enter Tryd.func12, Tryd.ntmps12
    go_wp2
    go_ret
    exact ⟨rfl, Below.refl _ _⟩
  go_enter Tryd.func12, Tryd.ntmps12
  go_wp2_with fail
  refine (drawEmptyDeeds_any A n c code _ hr hnc hc).mono ?_
  rintro x w1 ⟨A1, n1, c1, ss, t, d, rfl, hd0, hd1, hl, hn1, hn7, hO, hb1⟩
  have B1 := Lib.hid (LawR.new (t := t) hO (Nat.le_refl _))
  have a1 := Lib.hid (hb1.alloc hb1.size (.cells #[.slice A1 n1 c1, .bool t] 25))
  have HL := Lib.hid hl
  have hn : n1 ≤ 1048576 := by omega
  have hle := empF_le (ss, t) d
  obtain ⟨L, hL⟩ : ∃ L, L = empF (ss, t) d := ⟨_, rfl⟩
  rw [← hL] at hle
  have HLE := Lib.hid hL
  clear hb1 hr hO hl hL
  go_wp2_with fail
  refine (emptyDeeds_any A1 n1 c1 ss t d _ hn B1.out.row).mono ?_
  rintro x w2 ⟨v2, rfl, hO, hb2⟩
  rw [← HLE.out] at hO
  obtain ⟨A2, c2, hv2⟩ := OwnI.shape hO
  subst hv2
  have L2 := Lib.hid hO
  have B2 := Lib.hid (B1.out.next hb2)
  have a2 := Lib.hid (a1.out.trans (hb2.mono a1.out.size))
  clear hb2 hO B1 a1
  obtain ⟨p0, p1, -⟩ := B2.out.box.two
  go_wp2_with fail
  refine (specEmptyDeeds_any A1 n1 c1 ss t d _ hn B2.out.row).mono ?_
  rintro x w3 ⟨v3, rfl, hO, hb3⟩
  rw [← HLE.out] at hO
  obtain ⟨A3, c3, hv3⟩ := OwnI.shape hO
  subst hv3
  have M3 := Lib.hid hO
  have L3' := Lib.hid (OwnI.keep L2.out hb3)
  have B3 := Lib.hid (B2.out.next hb3)
  have a3 := Lib.hid (a2.out.trans (hb3.mono a2.out.size))
  clear hb3 hO B2 L2 a2 p0 p1
  go_wp2_with fail
  refine (sameInts_any A2 A3 L.length L.length c2 c3 L L _ (by omega) (by omega) (OwnI.rowZ L3'.out) (OwnI.rowZ M3.out)).mono ?_
  rintro x w4 ⟨rfl, hb4⟩
  rw [decide_eq_true rfl]
  have L4 := Lib.hid (OwnI.keep L3'.out hb4)
  have B4 := Lib.hid (B3.out.next hb4)
  have a4 := Lib.hid (a3.out.trans (hb4.mono a3.out.size))
  clear hb4 B3 L3' M3 a3
  obtain ⟨p0, p1, -⟩ := B4.out.box.two
  go_wp2_with fail
  refine (specBarsValid_any A1 n1 c1 ss t _ hn B4.out.row).mono ?_
  rintro x w5 ⟨rfl, hb5⟩
  have L5 := Lib.hid (OwnI.keep L4.out hb5)
  have B5 := Lib.hid (B4.out.next hb5)
  have a5 := Lib.hid (a4.out.trans (hb5.mono a4.out.size))
  clear hb5 B4 L4 a4 p0 p1
  by_cases hE : empB (ss, t) d = true
  rotate_left
  · rw [Bool.not_eq_true] at hE
    have hLn : L = [] := by rw [HLE.out]; exact emp_none hE
    subst hLn
    have hcase : brsOk (ss, t) = false ∨ (brsOk (ss, t) = true ∧ (d < 1 ∨ (¬ d < 1 ∧ 2 < d))) := by
      cases hb : brsOk (ss, t) with
      | false => exact .inl rfl
      | true =>
        refine .inr ⟨rfl, ?_⟩
        rw [empB, hb, Bool.true_and, Bool.eq_false_iff] at hE
        have : ¬ (1 ≤ d ∧ d ≤ 2) := fun h => hE (by simp only [inB, Bool.and_eq_true, decide_eq_true_eq]; exact h)
        omega
    rcases hcase with hb | ⟨hb, hlo | ⟨hlo, hhi⟩⟩
    all_goals
      rw [hb]
      go_wp2_with fail
      refine (alive_any _).mono ?_
      rintro x w6 ⟨rfl, hb6⟩
      go_wp2
      go_ret
      exact ⟨rfl, a5.out.trans (hb6.mono a5.out.size)⟩
  have hok : brsOk (ss, t) = true := by simp only [empB, Bool.and_eq_true] at hE; exact hE.1
  have hdin : 1 ≤ d ∧ d ≤ 2 := by simp only [empB, inB, Bool.and_eq_true, decide_eq_true_eq] at hE; exact hE.2
  obtain ⟨x, hx1, hx2, hx3, hx4⟩ := emp_all hE
  rw [← HLE.out] at hx1
  obtain ⟨F1, F2⟩ := x
  dsimp only at hx2 hx3 hx4
  subst hx2
  rw [hok]
  have HX := Lib.hid hx1
  have HX4 := Lib.hid hx4
  have HX3 := Lib.hid (hx3.trans HL.out)
  obtain ⟨hdl, hdh⟩ := hdin
  have hdl' : ¬ d < 1 := by omega
  have hdh' : ¬ 2 < d := by omega
  clear hok hE hx1 hx3 hx4
  obtain ⟨p0, p1, -⟩ := B5.out.box.two
  go_wp2_with fail
  refine (barsRun_any A1 n1 c1 ss F2 A2 L.length c2 L _ hn B5.out.row (by omega) (OwnI.rowZ L5.out)).mono ?_
  rintro y w6 ⟨v6, rfl, hO, hb6⟩
  rw [HX.out] at hO
  rw [HX.out]
  dsimp only [vR] at hO ⊢
  obtain ⟨A6, c6, hv6⟩ := OwnI.shape hO
  subst hv6
  rw [HX3.out] at hO ⊢
  have B6 := Lib.hid ((B5.out.next hb6).alloc (.cells #[.slice A6 n1 c6, .bool F2] 25))
  have X6 := Lib.hid (LawR.new (w := w) (t := F2) hO a5.out.size)
  have a6' := a5.out.trans (hb6.mono a5.out.size)
  have a6 := Lib.hid (a6'.alloc a6'.size (.cells #[.slice A6 n1 c6, .bool F2] 25))
  clear hb6 hO B5 L5 a5 a6' p0 p1
  obtain ⟨p0, p1, -⟩ := B6.out.box.two
  obtain ⟨q0, q1, -⟩ := X6.out.box.two
  go_wp2
  go_loop [8] (fun i => ∃ k : Nat, k ≤ n1 ∧ i = .int .i64 k) (fun i => n1 - (intOf i).toNat)
  case atStart => exact ⟨0, by omega, rfl⟩
  case round =>
    obtain ⟨k, hk, rfl⟩ := hrel
    by_cases hlt : k < n1
    · obtain ⟨b, off, z, rfl, hb, hz, g0⟩ := X6.out.row.at_ hlt
      have hz3 : z = 3 - d := HX4.out k z hz
      subst hz3
      clear hz
      go_wp2
      go_round
      case rel => exact ⟨k + 1, by omega, by go_num⟩
      case measure => simp [intOf]; omega
    · obtain rfl : k = n1 := by omega
      cases F2
      all_goals
        go_wp2
        go_ret
        exact ⟨rfl, a6.out⟩
end Go.Proofs.YtafgfhjlkdjngaaDoor
