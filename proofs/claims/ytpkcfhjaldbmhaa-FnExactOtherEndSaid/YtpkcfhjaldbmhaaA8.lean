/- The exact laws of OtherEnd and LineBetween: the walks. -/
import Derived.Test.YtpkcfhjaldbmhaaA5
import Derived.Test.YtpkcfhjaldbmhaaA6
import Derived.Test.YtpkcfhjaldbmhaaA7
namespace Go.Proofs.Ytpkcfhjaldbmhaa
open Go.ChangeShapes Go.WideShapes Go.ChangeAt Go.RowKit Go.Joins Go.Deep

set_option maxHeartbeats 1000000 in
theorem exactOtherEnd_walk (bs : Int) (A : Option Addr) (n c : Nat) (ls : List L3) (line bus : Int) (hn : n ≤ 9223372036854775807) (w : World) (hr : RowL w A n ls) :
    Calls Try.prog 5 #[.agg #[.int .i64 bs, .slice A n c], .int .i64 line, .int .i64 bus] w fun e w' => e = .returned (.bool true) ∧ Below w.heap.size w w' := by
  by_cases hc : n ≤ 1048576
  · have HR := Lib.hid hr
    clear hr
    go_enter Try.func5, Try.ntmps5
    go_wp2_with fail
    refine (szNet_any bs A n c hn _).mono ?_
    rintro e w1 ⟨rfl, hb1⟩
    simp only [hc, if_true]
    have a1 : Below w.heap.size w w1 := (below_bx w _).trans (hb1.mono (by simp))
    have k1 := Lib.hid ((IsBlk.new w 24 #[.int .i64 bs, .slice A n c]).keep hb1)
    obtain ⟨p0, p1, _, _⟩ := k1.out.two
    have hpos : ¬ ((1048576 : Int) - (n : Int) < 0) := by omega
    go_wp2_with fail
    refine (toNet_any bs A n c ls _ hc (HR.out.below a1)).mono ?_
    rintro e w2 ⟨g, rfl, hb2, hg, hk⟩
    have a2 : Below w.heap.size w w2 := a1.trans (hb2.mono a1.size)
    have k2 := Lib.hid (k1.out.keep hb2)
    have r2 := hk.row HR.out.1
    clear p0 p1
    go_wp2_with fail
    refine (specOtherEnd_any bs _ n n ls line bus _ hc r2).mono ?_
    rintro e w3 ⟨rfl, hb3⟩
    have a3 : Below w.heap.size w w3 := a2.trans (hb3.mono a2.size)
    have k3 := Lib.hid (k2.out.keep hb3)
    obtain ⟨p0, p1, _, _⟩ := k3.out.two
    clear hk r2
    go_wp2_with fail
    refine (toNet_any bs A n c ls _ hc (HR.out.below a3)).mono ?_
    rintro e w4 ⟨g', rfl, hb4, hg', hk⟩
    have a4 : Below w.heap.size w w4 := a3.trans (hb4.mono a3.size)
    have k4 := Lib.hid (k3.out.keep hb4)
    clear p0 p1
    go_wp2_with fail
    have x4 := Lib.hid (IsBlk.new w4 29 #[.int .i64 bs, .slice (some ⟨g', 0, none⟩) n n])
    have hk' := Lib.hid (hk.alloc (.cells #[.int .i64 bs, .slice (some ⟨g', 0, none⟩) n n] 29))
    clear hk
    refine (otherEnd_any bs _ n n ls line bus _ hc (hk'.out.row HR.out.1)).mono ?_
    rintro e w5 ⟨rfl, hb5⟩
    have a5 : Below w.heap.size w w5 := (a4.alloc a4.size _).trans (hb5.mono (by have := a4.size; simp; omega))
    have k5 := Lib.hid ((k4.out.alloc (.cells #[.int .i64 bs, .slice (some ⟨g', 0, none⟩) n n] 29)).keep hb5)
    have x5 := Lib.hid (x4.out.keep hb5)
    have y5 := Lib.hid (hk'.out.keep hb5)
    obtain ⟨p0, p1, _, _⟩ := k5.out.two
    obtain ⟨q0, q1, _, _⟩ := x5.out.two
    go_wp2_with fail
    have r5 : RowL w5.drew A n ls := HR.out.below a5.drew
    have x5' : IsBlk w5.drew w4.heap.size 29 #[.int .i64 bs, .slice (some ⟨g', 0, none⟩) n n] := x5.out
    have y5' : IsBlk w5.drew g' 44 (rowArr fL ls) := y5.out
    have R5 := Lib.hid r5
    have X5 := Lib.hid x5'
    have Y5 := Lib.hid y5'
    clear r5 x5' y5'
    have HL := Lib.hid HR.out.1
    go_region_with (first
      | (go_at_call 9; refine (toNet_any bs A n c ls _ hc R5.out).mono ?_; rintro e w6 ⟨h, rfl, hb6, hh, hk6⟩; obtain ⟨q0', q1', _, _⟩ := (X5.out.keep hb6).two; have Y6 := Lib.hid (Y5.out.keep hb6); have K6 := Lib.hid hk6; clear hk6)
      | (go_at_call 11; refine (eqNet_same bs _ _ n n n ls _ hc (Y6.out.row HL.out) (K6.out.row HL.out)).mono ?_; rintro e w7 ⟨rfl, hb7⟩))
    all_goals go_wp2
    all_goals go_ret
    all_goals exact ⟨rfl, (a5.drew.trans (hb6.mono (by have := a5.size; simp; omega))).trans (hb7.mono (by have := a5.size; have := hb6.size; simp at *; omega))⟩
  · go_enter Try.func5, Try.ntmps5
    go_wp2_with fail
    refine (szNet_any bs A n c hn _).mono ?_
    rintro e w1 ⟨rfl, hb1⟩
    simp only [hc, if_false]
    go_wp2
    go_ret
    exact ⟨rfl, (below_bx w _).trans (hb1.mono (by simp))⟩
end Go.Proofs.Ytpkcfhjaldbmhaa
