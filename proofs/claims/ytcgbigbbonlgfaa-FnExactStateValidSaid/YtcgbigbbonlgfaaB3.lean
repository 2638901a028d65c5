/- The exact laws of StateNumber and StateValid: the walks. -/
import Derived.Test.YtcgbigbbonlgfaaA5
import Derived.Test.YtcgbigbbonlgfaaB1
import Derived.Test.YtcgbigbbonlgfaaB2
import Derived.Deep.DeepCutAuto
namespace Go.Proofs.Ytcgbigbbonlgfaa
open Go.ChangeShapes Go.WideShapes Go.ChangeAt Go.RowKit Go.Joins Go.Deep

theorem exactStateNumber_walk (w : World) (A : Option Addr) (n c : Nat) (ts : List Bool) (hnc : n ≤ c) (hcc : c ≤ 9223372036854775807) (hr : RowT w A n ts) :
    Calls Try.prog 4 #[.slice A n c] w fun e w' => e = .returned (.bool true) ∧ Below w.heap.size w w' := by
  by_cases hc : n ≤ 1048576
  · have HR := Lib.hid hr
    have HL := Lib.hid hr.len
    clear hr
    go_enter Try.func4, Try.ntmps4
    go_wp2_with fail
    refine (toBoolS_any A n c ts _ hc HR.out).mono ?_
    rintro e w1 ⟨rfl, hO1, hb1, hs1⟩
    have O1 := Lib.hid hO1
    obtain ⟨A1, c1, he1, _, hrow1⟩ := hO1.row
    injection he1 with he1 he2 he3
    subst he1
    rw [HL.out] at hrow1
    have R1 := Lib.hid hrow1
    clear hO1 hrow1 he2 he3
    go_wp2_with fail
    refine (specStateNumber_any _ n n ts _ (by omega) R1.out).mono ?_
    rintro e w1' ⟨rfl, rfl⟩
    go_wp2_with fail
    refine (toBoolS_any A n c ts _ hc (HR.out.below hb1)).mono ?_
    rintro e w2 ⟨rfl, hO2, hb2, hs2⟩
    have a2 : Below w.heap.size w w2 := hb1.trans (hb2.mono hb1.size)
    have O2 := Lib.hid hO2
    obtain ⟨A2, c2, he1, _, hrow2⟩ := hO2.row
    injection he1 with he1 he2 he3
    subst he1
    rw [HL.out] at hrow2
    have R2 := Lib.hid hrow2
    clear hO2 hrow2 he2 he3
    go_wp2_with fail
    refine (stateNumber_any _ n n ts _ (by omega) R2.out).mono ?_
    rintro e w2' ⟨rfl, rfl⟩
    go_wp2_with fail
    refine (toBoolS_any A n c ts _ hc (HR.out.below a2)).mono ?_
    rintro e w3 ⟨rfl, hO3, hb3, hs3⟩
    have O3 := Lib.hid hO3
    have a3 : Below w.heap.size w w3 := a2.trans (hb3.mono a2.size)
    clear hO3
    go_wp2_with fail
    refine (eqBoolS_own (by rw [HL.out]; exact hc) (O2.out.keep hb3) O3.out).mono ?_
    rintro e w4 ⟨rfl, hb4⟩
    go_wp2
    go_ret
    exact ⟨rfl, a3.trans (hb4.mono a3.size)⟩
  · have hc2 : (1048576 : Int) < (n : Int) := by omega
    go_enter Try.func4, Try.ntmps4
    go_wp2
    go_ret
    exact ⟨rfl, Below.refl _ _⟩

set_option maxHeartbeats 1000000 in
theorem exactStateValid_walk (w : World) (bs : Int) (A : Option Addr) (n c : Nat) (ls : List L3) (hn : n ≤ 9223372036854775807) (hr : RowL w A n ls) (B : Option Addr) (m d : Nat) (ts : List Bool) (hmd : m ≤ d) (hdd : d ≤ 9223372036854775807) (hrt : RowT w B m ts) :
    Calls Try.prog 3 #[.agg #[.int .i64 bs, .slice A n c], .slice B m d] w fun e w' => e = .returned (.bool true) ∧ Below w.heap.size w w' := by
  have HR := Lib.hid hr
  have HT := Lib.hid hrt
  clear hr hrt
  by_cases hm : m ≤ 1048576
  · by_cases hc : n ≤ 1048576
    · go_enter Try.func3, Try.ntmps3
      go_wp2_with fail
      refine (szNet_any bs A n c hn _).mono ?_
      rintro e w1 ⟨rfl, hb1⟩
      simp only [hc, if_true]
      have a1 : Below w.heap.size w w1 := (below_bx w _).trans (hb1.mono (by simp))
      have k1 := Lib.hid ((IsBlk.new w 24 #[.int .i64 bs, .slice A n c]).keep hb1)
      obtain ⟨p0, p1, _, _⟩ := k1.out.two
      have hpos : ¬ ((1048576 : Int) - (n : Int) < 0) := by omega
      go_wp2_with fail
      refine (toNet_any bs A n c ls _ hc (HR.out.below a1)).mono ?_
      rintro e w2 ⟨g, rfl, hb2, hg, hk⟩
      have a2 : Below w.heap.size w w2 := a1.trans (hb2.mono a1.size)
      have k2 := Lib.hid (k1.out.keep hb2)
      have r2 := Lib.hid (hk.row HR.out.1)
      clear p0 p1 hk
      go_wp2_with fail
      refine (toBoolS_any B m d ts _ hm (HT.out.below a2)).mono ?_
      rintro e w3 ⟨rfl, hO3, hb3, hs3⟩
      have a3 : Below w.heap.size w w3 := a2.trans (hb3.mono a2.size)
      have k3 := Lib.hid (k2.out.keep hb3)
      clear hO3
      go_wp2_with fail
      refine (specStateValid_any bs _ n n ls _ m m _ hc (r2.out.below hb3) (by omega)).mono ?_
      rintro e w4 ⟨rfl, hb4⟩
      have a4 : Below w.heap.size w w4 := a3.trans (hb4.mono a3.size)
      have k4 := Lib.hid (k3.out.keep hb4)
      obtain ⟨p0, p1, _, _⟩ := k4.out.two
      go_wp2_with fail
      refine (toNet_any bs A n c ls _ hc (HR.out.below a4)).mono ?_
      rintro e w5 ⟨g', rfl, hb5, hg', hk⟩
      have a5 : Below w.heap.size w w5 := a4.trans (hb5.mono a4.size)
      have k5 := Lib.hid (k4.out.keep hb5)
      clear p0 p1
      go_wp2_with fail
      have x5 := Lib.hid (IsBlk.new w5 30 #[.int .i64 bs, .slice (some ⟨g', 0, none⟩) n n])
      have y5 := Lib.hid (hk.alloc (.cells #[.int .i64 bs, .slice (some ⟨g', 0, none⟩) n n] 30))
      clear hk
      have k5' := Lib.hid (k5.out.alloc (.cells #[.int .i64 bs, .slice (some ⟨g', 0, none⟩) n n] 30))
      have a5' : Below w.heap.size w (w5.alloc (.cells #[.int .i64 bs, .slice (some ⟨g', 0, none⟩) n n] 30)) := a5.alloc a5.size _
      refine (toBoolS_any B m d ts _ hm (HT.out.below a5')).mono ?_
      rintro e w6 ⟨rfl, hO6, hb6, hs6⟩
      simp only [World.size_alloc] at hO6
      have O6 := Lib.hid hO6
      have a6 : Below w.heap.size w w6 := a5'.trans (hb6.mono a5'.size)
      have k6 := Lib.hid (k5'.out.keep hb6)
      have x6 := Lib.hid (x5.out.keep hb6)
      have y6 := Lib.hid (y5.out.keep hb6)
      obtain ⟨q0, q1, _, _⟩ := x6.out.two
      clear hO6
      go_wp2_with fail
      refine (stateValid_any bs _ n n ls _ m m _ hc (y6.out.row HR.out.1) (by omega)).mono ?_
      rintro e w7 ⟨rfl, hb7⟩
      have a7 : Below w.heap.size w w7 := a6.trans (hb7.mono a6.size)
      have k7 := Lib.hid (k6.out.keep hb7)
      have x7 := Lib.hid (x6.out.keep hb7)
      have y7 := Lib.hid (y6.out.keep hb7)
      have O7 := Lib.hid (O6.out.keep hb7)
      clear q0 q1
      obtain ⟨p0, p1, _, _⟩ := k7.out.two
      obtain ⟨q0, q1, _, _⟩ := x7.out.two
      go_upto_region 13 with fail
      have R7 := Lib.hid (show RowL w7.drew A n ls from HR.out.below a7.drew)
      have X7 := Lib.hid (show IsBlk w7.drew w5.heap.size 30 #[.int .i64 bs, .slice (some ⟨g', 0, none⟩) n n] from x7.out)
      have Y7 := Lib.hid (show IsBlk w7.drew g' 61 (rowArr fL ls) from y7.out)
      have HL := Lib.hid HR.out.1
      go_cut [37] (fun s wx => s = .bool false ∧ Below w7.heap.size w7 wx)
      case first =>
        go_region_with (first
          | (go_at_call 11; refine (toNet_any bs A n c ls _ hc R7.out).mono ?_; rintro e w8 ⟨h, rfl, hb8, hh, hk8⟩; obtain ⟨q0', q1', _, _⟩ := (X7.out.keep hb8).two; have Y8 := Lib.hid (Y7.out.keep hb8); have K8 := Lib.hid hk8; clear hk8)
          | (go_at_call 14; refine (eqNet_same bs _ _ n n n ls _ hc (Y8.out.row HL.out) (K8.out.row HL.out)).mono ?_; rintro e w9 ⟨rfl, hb9⟩))
        all_goals (go_wp2_with fail; go_meet; exact ⟨rfl, (((Below.refl w7.heap.size w7).drew).trans hb8).trans (hb9.mono hb8.size)⟩)
      case rest =>
        obtain ⟨rfl, hb10⟩ := hcut
        have a10 : Below w.heap.size w wc := a7.trans (hb10.mono a7.size)
        have O10 := Lib.hid (O7.out.keep hb10)
        clear p0 p1 q0 q1
        go_wp2_with fail
        refine (toBoolS_any B m d ts _ hm (HT.out.below a10)).mono ?_
        rintro e w11 ⟨rfl, hO11, hb11, hs11⟩
        have O11 := Lib.hid hO11
        have a11 : Below w.heap.size w w11 := a10.trans (hb11.mono a10.size)
        clear hO11
        go_wp2_with fail
        (with_reducible refine (eqBoolS_own (by rw [HT.out.len]; exact hm) (O10.out.keep hb11) O11.out).mono ?_)
        rintro e w12 ⟨rfl, hb12⟩
        go_wp2
        go_ret
        exact ⟨rfl, a11.trans (hb12.mono a11.size)⟩
    · go_enter Try.func3, Try.ntmps3
      go_wp2_with fail
      refine (szNet_any bs A n c hn _).mono ?_
      rintro e w1 ⟨rfl, hb1⟩
      simp only [hc, if_false]
      go_wp2
      go_ret
      exact ⟨rfl, (below_bx w _).trans (hb1.mono (by simp))⟩
  · have hc2 : (1048576 : Int) < (m : Int) := by omega
    go_enter Try.func3, Try.ntmps3
    go_wp2
    go_ret
    exact ⟨rfl, below_bx _ _⟩
end Go.Proofs.Ytcgbigbbonlgfaa
