/- Busbars: the promise of BarsDo: the walk. -/
import Derived.Test.YtpcefbebknjkiaaDoorBrI
import Derived.Test.YtpcefbebknjkiaaDoorBrM
namespace Go.Proofs.YtpcefbebknjkiaaDoor
open Go.ChangeShapes Go.WideShapes Go.ChangeAt Go.RowKit

/-- Slices and boxes of bars that were laid, carried on together. -/
structure LawR (w wr : World) (X : Nat) (A : Option Addr) (n c : Nat) (ss : List Int) (t : Bool) : Prop where
  own : OwnI 3 wr w.heap.size (.slice A n c) ss
  box : IsBlk wr X 25 #[.slice A n c, .bool t]
theorem LawR.next {w wr w' : World} {X n c : Nat} {A : Option Addr} {ss : List Int} {t : Bool} (h : LawR w wr X A n c ss t) (hb : Below wr.heap.size wr w') : LawR w w' X A n c ss t :=
  ⟨OwnI.keep h.own hb, h.box.keep hb⟩
theorem LawR.alloc {w wr : World} {X n c : Nat} {A : Option Addr} {ss : List Int} {t : Bool} (h : LawR w wr X A n c ss t) (o : Obj) : LawR w (wr.alloc o) X A n c ss t := h.next (below_bx wr o)
theorem LawR.new {w wr : World} {n c B : Nat} {A : Option Addr} {ss : List Int} {t : Bool} (h : OwnI 3 wr B (.slice A n c) ss) (hB : w.heap.size ≤ B) : LawR w (wr.alloc (.cells #[.slice A n c, .bool t] 25)) wr.heap.size A n c ss t :=
  ⟨OwnI.alloc (OwnI.moreR h hB) _, IsBlk.new _ _ _⟩
theorem LawR.row {w wr : World} {X n c : Nat} {A : Option Addr} {ss : List Int} {t : Bool} (h : LawR w wr X A n c ss t) : RowZ wr A n ss := OwnI.rowZ h.own
theorem back_emodR {d : Int} (hb : 0 ≤ d) : d + 1 - 2 * d.tmod 2 = d + 1 - 2 * (d % 2) := by rw [Int.tmod_eq_emod_of_nonneg hb]

set_option maxRecDepth 100000 in
set_option maxHeartbeats 8000000 in
theorem lawBarsDo_walk (w : World) (A : Option Addr) (n c : Nat) (code : List Int) (hr : RowB w A n code) (hnc : n ≤ c) (hc : c ≤ 9223372036854775807) :
    Calls Tryd.prog 4 #[.slice A n c] w fun x w' => x = .returned (.bool true) ∧ Below w.heap.size w w' := by
  by_cases hbig : 1048576 < n
  · go_enter Tryd.func4, Tryd.ntmps4
    go_wp2
    go_ret
    exact ⟨rfl, Below.refl _ _⟩
  go_enter Tryd.func4, Tryd.ntmps4
  go_wp2_with fail
  refine (drawBarsDo_any A n c code _ hr hnc hc).mono ?_
  rintro x w1 ⟨A1, n1, c1, ss, t, d, rfl, hd0, hd1, hl, hn1, hn7, hO, hb1⟩
  have B1 := Lib.hid (LawR.new (t := t) hO (Nat.le_refl _))
  have a1 := Lib.hid (hb1.alloc hb1.size (.cells #[.slice A1 n1 c1, .bool t] 25))
  have HL := Lib.hid hl
  have hn : n1 ≤ 1048576 := by omega
  clear hb1 hr hO hl
  obtain ⟨F, hF⟩ : ∃ F, F = bdF (ss, t) d := ⟨_, rfl⟩
  obtain ⟨T, hT⟩ : ∃ T, T = bdB (ss, t) d := ⟨_, rfl⟩
  have hfl : F.1.length ≤ 7 := by rw [hF, bdF]; split; rw [do_len]; have := HL.out; simp only; omega; simp
  have HF := Lib.hid hF
  have HT := Lib.hid hT
  obtain ⟨F1, F2⟩ := F
  dsimp only at hfl
  clear hF hT
  go_wp2_with fail
  refine (barsDo_any A1 n1 c1 ss t d _ hn B1.out.row).mono ?_
  rintro x w2 ⟨v2, rfl, hO, hb2⟩
  rw [← HF.out] at hO
  rw [← HF.out, ← HT.out]
  dsimp only [vR] at hO ⊢
  obtain ⟨A2, c2, hv2⟩ := OwnI.shape hO
  subst hv2
  have B2 := Lib.hid ((B1.out.next hb2).alloc (.cells #[.slice A2 F1.length c2, .bool F2] 25))
  have X2 := Lib.hid (LawR.new (w := w) (t := F2) hO a1.out.size)
  have a2' := a1.out.trans (hb2.mono a1.out.size)
  have a2 := Lib.hid (a2'.alloc a2'.size (.cells #[.slice A2 F1.length c2, .bool F2] 25))
  clear hb2 hO B1 a1 a2'
  obtain ⟨p0, p1, -⟩ := B2.out.box.two
  go_wp2_with fail
  refine (specBarsDo_any A1 n1 c1 ss t d _ hn B2.out.row (by omega)).mono ?_
  rintro x w3 ⟨v3, rfl, hO, hb3⟩
  rw [← HF.out] at hO
  rw [← HF.out, ← HT.out]
  dsimp only [vR] at hO ⊢
  obtain ⟨A3, c3, hv3⟩ := OwnI.shape hO
  subst hv3
  have B3 := Lib.hid ((B2.out.next hb3).alloc (.cells #[.slice A3 F1.length c3, .bool F2] 25))
  have X3 := Lib.hid ((X2.out.next hb3).alloc (.cells #[.slice A3 F1.length c3, .bool F2] 25))
  have Y3 := Lib.hid (LawR.new (w := w) (t := F2) hO a2.out.size)
  have a3' := a2.out.trans (hb3.mono a2.out.size)
  have a3 := Lib.hid (a3'.alloc a3'.size (.cells #[.slice A3 F1.length c3, .bool F2] 25))
  clear hb3 hO B2 X2 a2 a3' p0 p1
  obtain ⟨p0, p1, -⟩ := B3.out.box.two
  obtain ⟨q0, q1, -⟩ := X3.out.box.two
  obtain ⟨r0, r1, -⟩ := Y3.out.box.two
  go_wp2_with fail
  refine (sameBars_any A2 A3 F1.length F1.length c2 c3 F1 F1 F2 F2 _ (by omega) (by omega) X3.out.row Y3.out.row).mono ?_
  rintro x w4 ⟨rfl, hb4⟩
  rw [decide_eq_true rfl]
  have B4 := Lib.hid (B3.out.next hb4)
  have X4 := Lib.hid (X3.out.next hb4)
  have a4 := Lib.hid (a3.out.trans (hb4.mono a3.out.size))
  clear hb4 B3 X3 Y3 a3 p0 p1 q0 q1 r0 r1
  obtain ⟨p0, p1, -⟩ := B4.out.box.two
  obtain ⟨q0, q1, -⟩ := X4.out.box.two
  by_cases hok : brsOk (ss, t) = true
  rotate_left
  · -- not valid: nothing is answered
    rw [Bool.not_eq_true] at hok
    have hF0 : ((F1, F2) : BB) = ([], false) := by rw [HF.out, bdF, if_neg (by rw [hok]; simp)]
    have hT0 : T = false := by rw [HT.out, bdB, hok]; rfl
    obtain ⟨rfl, rfl⟩ : F1 = [] ∧ F2 = false := by simpa using hF0
    subst hT0
    go_wp2_with fail
    refine (sameBars_any A2 A1 _ n1 c2 c1 _ ss false t _ (by simp) hn X4.out.row B4.out.row).mono ?_
    rintro x w5 ⟨rfl, hb5⟩
    have X5 := Lib.hid (X4.out.next hb5)
    have a5 := Lib.hid (a4.out.trans (hb5.mono a4.out.size))
    clear p0 p1 q0 q1
    obtain ⟨q0, q1, -⟩ := X5.out.box.two
    generalize decide ((([] : List Int), false) = (ss, t)) = e5
    cases e5
    all_goals
      go_wp2_with fail
      refine (alive_any _).mono ?_
      rintro x w6 ⟨rfl, hb6⟩
      go_wp2
      go_ret
      exact ⟨rfl, a5.out.trans (hb6.mono a5.out.size)⟩
  have HOK := Lib.hid hok
  have HFD := Lib.hid (show ((F1, F2) : BB) = doR (ss, t) d by rw [HF.out, bdF_ok hok])
  have HTM := Lib.hid (show T = mayR (ss, t) d by rw [HT.out, bdB_ok hok])
  by_cases hm : mayR (ss, t) d = true
  rotate_left
  · have hT0 : T = false := by rw [HTM.out]; simpa using hm
    have hF0 : ((F1, F2) : BB) = (ss, t) := by rw [HFD.out, doR, if_neg hm]
    obtain ⟨rfl, rfl⟩ : F1 = ss ∧ F2 = t := by simpa using hF0
    subst hT0
    go_wp2_with fail
    refine (sameBars_any A2 A1 _ n1 c2 c1 _ _ _ _ _ (by omega) hn X4.out.row B4.out.row).mono ?_
    rintro x w5 ⟨rfl, hb5⟩
    rw [decide_eq_true rfl]
    have a5 := Lib.hid (a4.out.trans (hb5.mono a4.out.size))
    go_wp2_with fail
    refine (alive_any _).mono ?_
    rintro x w6 ⟨rfl, hb6⟩
    go_wp2
    go_ret
    exact ⟨rfl, a5.out.trans (hb6.mono a5.out.size)⟩
  have hT1 : T = true := by rw [HTM.out, hm]
  subst hT1
  have hbk := back_R hok hm
  rw [← HFD.out] at hbk
  have hF1ok : brsOk (F1, F2) = true := by rw [HFD.out]; exact do_ok hok d
  have HFOK := Lib.hid hF1ok
  have hdn : 0 ≤ d := by obtain ⟨k, rfl, _⟩ := may_in hm; omega
  have hb1 : bdF (F1, F2) (d + 1 - 2 * (d % 2)) = (ss, t) := by rw [bdF_ok hF1ok]; exact hbk.2.1
  have hb2 : bdB (F1, F2) (d + 1 - 2 * (d % 2)) = true := by rw [bdB_ok hF1ok]; exact hbk.1
  have HB1 := Lib.hid hb1
  have HB2 := Lib.hid hb2
  have HNE := Lib.hid hbk.2.2
  clear hok hm hbk hF1ok hb1 hb2
  go_wp2_with fail
  refine (barsDo_any A2 F1.length c2 F1 F2 (d + 1 - 2 * (d % 2)) _ (by omega) X4.out.row).mono ?_
  rintro x w5 ⟨v5, rfl, hO, hb5⟩
  rw [HB1.out] at hO
  rw [HB1.out, HB2.out]
  dsimp only [vR] at hO ⊢
  obtain ⟨A5, c5, hv5⟩ := OwnI.shape hO
  subst hv5
  rw [HL.out] at hO ⊢
  have B5 := Lib.hid ((B4.out.next hb5).alloc (.cells #[.slice A5 n1 c5, .bool t] 25))
  have X5 := Lib.hid ((X4.out.next hb5).alloc (.cells #[.slice A5 n1 c5, .bool t] 25))
  have Z5 := Lib.hid (LawR.new (w := w) (t := t) hO a4.out.size)
  have a5' := a4.out.trans (hb5.mono a4.out.size)
  have a5 := Lib.hid (a5'.alloc a5'.size (.cells #[.slice A5 n1 c5, .bool t] 25))
  clear hb5 hO B4 X4 a4 a5' p0 p1 q0 q1
  obtain ⟨q0, q1, -⟩ := X5.out.box.two
  go_wp2_with fail
  refine (barsValid_any A2 F1.length c2 F1 F2 _ (by omega) X5.out.row).mono ?_
  rintro x w6 ⟨rfl, hb6⟩
  rw [HFOK.out]
  have B6 := Lib.hid (B5.out.next hb6)
  have X6 := Lib.hid (X5.out.next hb6)
  have Z6 := Lib.hid (Z5.out.next hb6)
  have a6 := Lib.hid (a5.out.trans (hb6.mono a5.out.size))
  clear hb6 B5 X5 Z5 a5 q0 q1
  obtain ⟨p0, p1, -⟩ := B6.out.box.two
  obtain ⟨q0, q1, -⟩ := X6.out.box.two
  go_wp2_with fail
  refine (sameBars_any A2 A1 F1.length n1 c2 c1 F1 ss F2 t _ (by omega) hn X6.out.row B6.out.row).mono ?_
  rintro x w7 ⟨rfl, hb7⟩
  rw [decide_eq_false HNE.out]
  have B7 := Lib.hid (B6.out.next hb7)
  have Z7 := Lib.hid (Z6.out.next hb7)
  have a7 := Lib.hid (a6.out.trans (hb7.mono a6.out.size))
  clear hb7 B6 X6 Z6 a6 p0 p1 q0 q1
  obtain ⟨p0, p1, -⟩ := B7.out.box.two
  obtain ⟨q0, q1, -⟩ := Z7.out.box.two
  go_wp2_with fail
  refine (sameBars_any A5 A1 n1 n1 c5 c1 ss ss t t _ hn hn Z7.out.row B7.out.row).mono ?_
  rintro x w8 ⟨rfl, hb8⟩
  rw [decide_eq_true rfl]
  go_wp2
  go_ret
  exact ⟨rfl, a7.out.trans (hb8.mono a7.out.size)⟩
end Go.Proofs.YtpcefbebknjkiaaDoor
