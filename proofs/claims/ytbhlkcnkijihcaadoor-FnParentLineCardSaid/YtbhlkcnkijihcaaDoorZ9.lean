/- FnParentLine: the walk. -/
import Derived.Test.YtbhlkcnkijihcaaDoorZ8
import Derived.Test.YtbhlkcnkijihcaaDoorG12
import Derived.Deep.AppendLies
namespace Go.Proofs.YtbhlkcnkijihcaaDoor
open Go.ChangeShapes Go.WideShapes Go.ChangeAt Go.RowKit

theorem holdP {w w' : World} {X b o : Nat} {u v x : Value} (p0 : w.cell? ⟨X, 0, none⟩ = some u) (p1 : w.cell? ⟨X, 1, none⟩ = some v) (hX : X < w.heap.size) (g0 : w.cell? ⟨b, o, none⟩ = some x) (hbb : b < w.heap.size) (hb : Below w.heap.size w w') :
    Below w.heap.size w w' ∧ w'.cell? ⟨X, 0, none⟩ = some u ∧ w'.cell? ⟨X, 1, none⟩ = some v ∧ w'.cell? ⟨b, o, none⟩ = some x :=
  ⟨hb, (hb.cell (p := ⟨X, 0, none⟩) hX).trans p0, (hb.cell (p := ⟨X, 1, none⟩) hX).trans p1, (hb.cell (p := ⟨b, o, none⟩) hbb).trans g0⟩
theorem ownI_snoc {w : World} {base : Nat} {v : Value} {ps : List Int} {x : Int} (h : w.ownsRow base 3 1 v (ps.length + 1) (ps.map (Value.int .i64) ++ [.int .i64 x])) : OwnI 3 w base v (ps ++ [x]) := by
  show World.ownsRow _ _ _ _ _ (ps ++ [x]).length _
  rw [List.length_append, List.map_append]; exact h

set_option maxRecDepth 100000 in
set_option maxHeartbeats 16000000 in
theorem parL_walk (w : World) (A : Option Addr) (n c : Nat) (code : List Int) (hr : RowB w A n code) (hnc : n ≤ c) (hc : c ≤ 9223372036854775807) :
    Calls Tryd.prog 4 #[.slice A n c] w fun e w' => e = .returned (.bool true) ∧ Below w.heap.size w w' := by
  by_cases hlen : n ≤ 1048576
  · obtain ⟨ix, hix, hz0, hz1, hz2⟩ := info_parts intInfo6
    have HI0 := Lib.hid hix
    clear hix
    go_enter Tryd.func4, Tryd.ntmps4
    go_wp2_with fail
    refine (drawParentLine_any A n c code _ hr hnc hc).mono ?_
    rintro e w1 ⟨bs, A1, c1, ls, A2, c2, ts, A3, c3, us, bus, rfl, hrow, hls, hb0, hb9, hrt, hts, hru, hus, a1⟩
    have hbx := below_bx w1 (.cells #[.int .i64 bs, .slice A1 ls.length c1] 25)
    have HR1 := Lib.hid (hrow.below hbx)
    have k1 := Lib.hid (IsBlk.new w1 25 #[.int .i64 bs, .slice A1 ls.length c1])
    have b1 : Below w.heap.size w (w1.alloc (.cells #[.int .i64 bs, .slice A1 ls.length c1] 25)) := a1.alloc a1.size _
    have T1 := Lib.hid (hrt.below hbx)
    have U1 := Lib.hid (hru.below hbx)
    clear hrow hr hrt hru
    have h1 : ls.length ≤ 1048576 := by omega
    have h2 : ts.length ≤ 1048576 := by omega
    have h3 : us.length ≤ 1048576 := by omega
    go_wp2_with fail
    refine (parentLine_any bs A1 ls.length c1 ls A2 ts.length c2 ts A3 us.length c3 us bus _ h1 HR1.out h2 T1.out h3 U1.out).mono ?_
    rintro e w2 ⟨rfl, hb2⟩
    have b2 := b1.trans (hb2.mono b1.size)
    have HR2 := Lib.hid (HR1.out.below hb2)
    have k2 := Lib.hid (k1.out.keep hb2)
    have T2 := Lib.hid (T1.out.below hb2)
    have U2 := Lib.hid (U1.out.below hb2)
    clear HR1 k1 T1 U1
    obtain ⟨p0, p1, _, _⟩ := k2.out.two
    go_wp2_with fail
    refine (specParentLine_any bs A1 ls.length c1 ls A2 ts.length c2 ts A3 us.length c3 us bus _ h1 HR2.out h2 T2.out h3 U2.out).mono ?_
    rintro e w3 ⟨rfl, hb3⟩
    have b3 := b2.trans (hb3.mono b2.size)
    have HR3 := Lib.hid (HR2.out.below hb3)
    have k3 := Lib.hid (k2.out.keep hb3)
    have T3 := Lib.hid (T2.out.below hb3)
    have U3 := Lib.hid (U2.out.below hb3)
    clear HR2 k2 T2 U2 p0 p1
    obtain ⟨p0, p1, _, _⟩ := k3.out.two
    by_cases hx : plnF bs ls ts us bus < 0
    · obtain ⟨he, hp⟩ := pln_neg hx
      rw [he]
      go_wp2_with fail
      refine (pathLines_any bs A1 ls.length c1 ls A2 ts.length c2 ts A3 us.length c3 us bus _ h1 HR3.out h2 T3.out h3 U3.out).mono ?_
      rintro e w4 ⟨v4, rfl, hO4, hb4⟩
      rw [hp] at hO4
      have b4 := b3.trans (hb4.mono b3.size)
      obtain ⟨A4, c4, rfl, _⟩ := hO4.sl
      clear hO4 p0 p1
      rw [List.length_nil]
      go_wp2_with fail
      refine (alive_any _).mono ?_
      rintro e w5 ⟨rfl, hb5⟩
      go_wp2
      go_ret
      exact ⟨rfl, b4.trans (hb5.mono b4.size)⟩
    · obtain ⟨c0, k, o, rfl, he, hs, hkl, hkt, hot, hfb, hpa⟩ := pln_pos hx
      rw [he]
      go_wp2_with fail
      refine (otherEnd_any bs A1 ls.length c1 ls k c0 _ h1 HR3.out).mono ?_
      rintro e w4 ⟨rfl, hb4⟩
      rw [hot]
      have b4 := b3.trans (hb4.mono b3.size)
      have hR4 := HR3.out.below hb4
      have k4 := k3.out.keep hb4
      have hT4 := T3.out.below hb4
      have hU4 := U3.out.below hb4
      clear HR3 k3 T3 U3 p0 p1
      obtain ⟨p0, p1, _, _⟩ := k4.two
      obtain ⟨bt, ot, t, hAt, hbt, hkt2, e0⟩ := hT4.at_ hkl
      rw [hkt] at hkt2; injection hkt2 with hkt2; subst hkt2 hAt
      have hX := k4.lt
      have hlo : (patF bs ls ts us (o : Int)).length ≤ 10 := patF_len _ _ _ _ _
      have CF := fun (W : World) (hW : Below w4.heap.size w4 W) => fedBy_any bs A1 ls.length c1 ls _ ts.length c2 ts A3 us.length c3 us o W h1 (hR4.below hW) h2 (hT4.below hW) h3 (hU4.below hW)
      have CG := fun (W : World) (hW : Below w4.heap.size w4 W) => fedBy_any bs A1 ls.length c1 ls _ ts.length c2 ts A3 us.length c3 us c0 W h1 (hR4.below hW) h2 (hT4.below hW) h3 (hU4.below hW)
      have CP := fun (W : World) (hW : Below w4.heap.size w4 W) => pathLines_any bs A1 ls.length c1 ls _ ts.length c2 ts A3 us.length c3 us o W h1 (hR4.below hW) h2 (hT4.below hW) h3 (hU4.below hW)
      have CQ := fun (W : World) (hW : Below w4.heap.size w4 W) => pathLines_any bs A1 ls.length c1 ls _ ts.length c2 ts A3 us.length c3 us c0 W h1 (hR4.below hW) h2 (hT4.below hW) h3 (hU4.below hW)
      rw [hfb] at CF
      rw [hpa] at CQ
      generalize fbyF bs ls ts us (c0 : Int) = y at *
      generalize patF bs ls ts us (o : Int) = ps at *
      have hs10 : (ps ++ [(k : Int)]).length ≤ 1048576 := by rw [List.length_append, List.length_singleton]; omega
      generalize hq : ps ++ [(k : Int)] = qs at *
      have HQ := Lib.hid hq
      have DF := Lib.hid CF
      have DG := Lib.hid CG
      have DP := Lib.hid CP
      have DQ := Lib.hid CQ
      have i0 : (0 : Int) ≤ (k : Int) := by omega
      have i1 : (k : Int) < (ts.length : Int) := by omega
      have i2 : (0 : Int) ≤ (o : Int) := by omega
      clear CF CG CP CQ hx he hs hkt hot hfb hpa hq hR4 hT4 hU4 k4
      go_upto_region 10 with fail
      go_region_held3 (fun w' => Below w4.heap.size w4 w' ∧ w'.cell? ⟨w1.heap.size, 0, none⟩ = some (.int .i64 bs) ∧ w'.cell? ⟨w1.heap.size, 1, none⟩ = some (.slice A1 ls.length c1) ∧ w'.cell? ⟨bt, ot + k, none⟩ = some (.bool true))
        (first | (refine holdP p0 p1 hX e0 hbt ?_; repeat (first | with_reducible exact hB10 | with_reducible exact hB8 | with_reducible exact hB9 | with_reducible exact hB7 | with_reducible exact hB6 | with_reducible exact hB5 | with_reducible exact Below.refl _ _ | with_reducible refine Below.drew ?_ | (with_reducible refine Below.alloc ?_ (by first | exact hB7.size | exact hB6.size) _))))
        (first
          | (rw [if_pos (by rfl)]; refine wp_append_lies _ (.tmp 77) (.tmp 79) 33 rfl w4.heap.size 3 ix (.int .i64 0) 1 8 Tryd.underlying33 HI0.out hz0 hz1 hz2 rfl (by decide) _ ps.length (ps.map (Value.int .i64)) rfl ?_ _ 1 1 [.int .i64 (k : Int)] rfl rfl ?_ ?_ (by decide) ?_ ?_ ?_ _ rfl ?_
             · (first | exact O7.out | exact OwnI.alloc O7.out _)
             · (refine one_blk (t := 3) ?_; repeat (first | (with_reducible refine IsBlk.at_ rfl rfl ?_; (simp; done)) | with_reducible refine IsBlk.drew_ ?_ | exact IsBlk.new _ _ _ | exact (IsBlk.new _ _ _).keep hb7))
             · intro u hu; simp at hu; subst hu; rfl
             · simp only [maxLen]; omega
             · omega
             · (first | exact hB7.size | exact Nat.le_trans hB7.size (by simp))
             intro g cap w9 hown9 hgrow9 hat9 hlt9
             have hB9 : Below w4.heap.size w4 w9 := by
               refine Below.grown ?_ hgrow9 (by first | exact hB7.size | exact Nat.le_trans hB7.size (by simp)) (fun q hq => (World.ownsRow.lt O7.out q hq).1)
               repeat (first | with_reducible exact hB7 | with_reducible refine Below.drew ?_ | (with_reducible refine Below.alloc ?_ hB7.size _))
             have O9 := Lib.hid (show OwnI 3 w9 w4.heap.size (.slice (some ⟨g, 0, none⟩) (ps.length + 1) cap) qs by rw [← HQ.out]; exact ownI_snoc hown9)
             clear hown9 hgrow9 hat9 hlt9)
          | (go_at_call 12; (with_reducible refine (DF.out _ (And.left (by assumption))).mono ?_); rintro e w5 ⟨rfl, hb5⟩; have hB5 := runV (by assumption) hb5)
          | (go_at_call 12; (with_reducible refine (DG.out _ (And.left (by assumption))).mono ?_); rintro e w6 ⟨rfl, hb6⟩; have hB6 := runV (by assumption) hb6)
          | (go_at_call 22; (with_reducible refine (DP.out _ (And.left (by assumption))).mono ?_); rintro e w7 ⟨v7, rfl, hO7, hb7⟩; have hB7 := runV (by assumption) hb7; have O7 := Lib.hid (OwnI.more (base' := w4.heap.size) hO7 (Below.size (And.left (by assumption)))); obtain ⟨A7, c7, rfl, _⟩ := hO7.sl; clear hO7)
          | (go_at_call 22; (with_reducible refine (DQ.out _ (And.left (by assumption))).mono ?_); rintro e w8 ⟨v8, rfl, hO8, hb8⟩; have hB8 := runV (by assumption) hb8; have O8 := Lib.hid hO8; have P9 := Lib.hid (OwnI.keep O9.out hb8); obtain ⟨A8, c8, rfl, _⟩ := hO8.sl; clear hO8)
          | (go_at_call 24; refine (sameInts_own hs10 P9.out O8.out).mono ?_; rintro e w10 ⟨rfl, hb10⟩; have hB10 := runV (by assumption) hb10))
      all_goals rename_i hF
      all_goals have b10 := b4.trans (hF.1.mono b4.size)
      all_goals clear hF
      all_goals go_wp2_with fail
      all_goals go_ret
      all_goals exact ⟨rfl, b10⟩
  · have hl2 : (1048576 : Int) < (n : Int) := by omega
    go_enter Tryd.func4, Tryd.ntmps4
    go_wp2
    go_ret
    exact ⟨rfl, Below.refl _ _⟩
end Go.Proofs.YtbhlkcnkijihcaaDoor
