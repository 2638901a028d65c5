/- The exact law of NetText: the walk. -/
import Derived.Test.YtpkcfhjaldbmhaaDoorA3
import Derived.Test.YtpkcfhjaldbmhaaDoorA4
import Derived.Test.YtpkcfhjaldbmhaaDoorT3
namespace Go.Proofs.YtpkcfhjaldbmhaaDoor
open Go.ChangeShapes Go.WideShapes Go.ChangeAt Go.RowKit

theorem szNet_any (bs : Int) (A : Option Addr) (n c : Nat) (hn : n ≤ 9223372036854775807) (w : World) :
    Calls Tryd.prog 34 #[.agg #[.int .i64 bs, .slice A n c], .int .i64 1048576] w fun e w' => e = .returned (.int .i64 (if n ≤ 1048576 then 1048576 - n else -1)) ∧ Below w.heap.size w w' := by
  by_cases hc : n ≤ 1048576
  all_goals
    go_enter Tryd.func34, Tryd.ntmps34
    go_wp2_with fail
    refine (szLineS_any A n c _ rfl hn _).mono ?_
    rintro e w1 ⟨rfl, rfl⟩
    simp only [hc, if_true, if_false]
    go_wp2
    all_goals go_ret
    all_goals exact ⟨retI (by first | omega | rfl), below_bx _ _⟩

set_option maxHeartbeats 1000000 in
theorem exactNetText_walk (hI : ItoaSays) (bs : Int) (A : Option Addr) (n c : Nat) (ls : List L3) (hn : n ≤ 9223372036854775807) (w : World) (hr : RowL w A n ls) (ht : PowTab w) :
    Calls Tryd.prog 9 #[.agg #[.int .i64 bs, .slice A n c]] w fun e w' => e = .returned (.bool true) ∧ Below w.heap.size w w' := by
  by_cases hc : n ≤ 1048576
  · have HR := Lib.hid hr
    have HP := Lib.hid ht
    clear hr ht
    go_enter Tryd.func9, Tryd.ntmps9
    go_wp2_with fail
    refine (szNet_any bs A n c hn _).mono ?_
    rintro e w1 ⟨rfl, hb1⟩
    simp only [hc, if_true]
    have a1 : Below w.heap.size w w1 := (below_bx w _).trans (hb1.mono (by simp))
    have k1 := Lib.hid ((IsBlk.new w 49 #[.int .i64 bs, .slice A n c]).keep hb1)
    obtain ⟨p0, p1, _, _⟩ := k1.out.two
    have hpos : ¬ ((1048576 : Int) - (n : Int) < 0) := by omega
    go_wp2_with fail
    refine (toNet_any bs A n c ls _ hc (HR.out.below a1)).mono ?_
    rintro e w2 ⟨g, rfl, hb2, hg, hk⟩
    have a2 : Below w.heap.size w w2 := a1.trans (hb2.mono a1.size)
    have k2 := Lib.hid (k1.out.keep hb2)
    have r2 := hk.row HR.out.1
    clear p0 p1
    go_wp2_with fail
    refine (specNetText_any bs _ n n ls _ hc r2).mono ?_
    rintro e w3 ⟨rfl, hb3⟩
    have a3 : Below w.heap.size w w3 := a2.trans (hb3.mono a2.size)
    have k3 := Lib.hid (k2.out.keep hb3)
    obtain ⟨p0, p1, _, _⟩ := k3.out.two
    clear hk r2
    go_wp2_with fail
    refine (toNet_any bs A n c ls _ hc (HR.out.below a3)).mono ?_
    rintro e w4 ⟨g', rfl, hb4, hg', hk⟩
    have a4 : Below w.heap.size w w4 := a3.trans (hb4.mono a3.size)
    have k4 := Lib.hid (k3.out.keep hb4)
    clear p0 p1
    go_wp2_with fail
    have x4 := Lib.hid (IsBlk.new w4 25 #[.int .i64 bs, .slice (some ⟨g', 0, none⟩) n n])
    have hk' := Lib.hid (hk.alloc (.cells #[.int .i64 bs, .slice (some ⟨g', 0, none⟩) n n] 25))
    clear hk
    refine (netText_any hI bs _ n n ls _ hc (hk'.out.row HR.out.1) (HP.out.keep (a4.alloc a4.size _) (Nat.le_refl _))).mono ?_
    rintro e w5 ⟨rfl, hb5⟩
    have a5 : Below w.heap.size w w5 := (a4.alloc a4.size _).trans (hb5.mono (by have := a4.size; simp; omega))
    have k5 := Lib.hid ((k4.out.alloc (.cells #[.int .i64 bs, .slice (some ⟨g', 0, none⟩) n n] 25)).keep hb5)
    have x5 := Lib.hid (x4.out.keep hb5)
    have y5 := Lib.hid (hk'.out.keep hb5)
    obtain ⟨p0, p1, _, _⟩ := k5.out.two
    obtain ⟨q0, q1, _, _⟩ := x5.out.two
    go_wp2_with fail
    have r5 : RowL w5.drew A n ls := HR.out.below a5.drew
    have x5' : IsBlk w5.drew w4.heap.size 25 #[.int .i64 bs, .slice (some ⟨g', 0, none⟩) n n] := x5.out
    have y5' : IsBlk w5.drew g' 30 (rowArr fL ls) := y5.out
    have R5 := Lib.hid r5
    have X5 := Lib.hid x5'
    have Y5 := Lib.hid y5'
    clear r5 x5' y5'
    have HL := Lib.hid HR.out.1
    go_region_with (first
      | (go_at_call 35; refine (toNet_any bs A n c ls _ hc R5.out).mono ?_; rintro e w6 ⟨h, rfl, hb6, hh, hk6⟩; obtain ⟨q0', q1', _, _⟩ := (X5.out.keep hb6).two; have Y6 := Lib.hid (Y5.out.keep hb6); have K6 := Lib.hid hk6; clear hk6)
      | (go_at_call 36; refine (eqNet_same bs _ _ n n n ls _ hc (Y6.out.row HL.out) (K6.out.row HL.out)).mono ?_; rintro e w7 ⟨rfl, hb7⟩))
    all_goals go_wp2
    all_goals go_ret
    all_goals exact ⟨rfl, (a5.drew.trans (hb6.mono (by have := a5.size; simp; omega))).trans (hb7.mono (by have := a5.size; have := hb6.size; simp at *; omega))⟩
  · go_enter Tryd.func9, Tryd.ntmps9
    go_wp2_with fail
    refine (szNet_any bs A n c hn _).mono ?_
    rintro e w1 ⟨rfl, hb1⟩
    simp only [hc, if_false]
    go_wp2
    go_ret
    exact ⟨rfl, (below_bx w _).trans (hb1.mono (by simp))⟩
end Go.Proofs.YtpkcfhjaldbmhaaDoor
