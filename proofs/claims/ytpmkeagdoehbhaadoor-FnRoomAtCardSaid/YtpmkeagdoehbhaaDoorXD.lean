/- FnRoomAt: the walk. -/
import Derived.Test.YtpmkeagdoehbhaaDoorX9
import Derived.Deep.RegionHeld3
namespace Go.Proofs.YtpmkeagdoehbhaaDoor
open Go.ChangeShapes Go.WideShapes Go.ChangeAt Go.RowKit

set_option linter.unusedSimpArgs false in
set_option maxRecDepth 100000 in
set_option maxHeartbeats 8000000 in
theorem roomAtL_walk (w : World) (A : Option Addr) (n c : Nat) (code : List Int) (hr : RowB w A n code) (hnc : n ≤ c) (hc : c ≤ 9223372036854775807) :
    Calls Tryd.prog 6 #[.slice A n c] w fun e w' => e = .returned (.bool true) ∧ Below w.heap.size w w' := by
  by_cases hlen : n ≤ 1048576
  · go_enter Tryd.func6, Tryd.ntmps6
    go_wp2_with fail
    refine (drawRoomAt_any A n c code _ hr hnc hc).mono ?_
    rintro e w1 ⟨bs, A1, c1, ls, A2, c2, ts, A3, c3, us, A4, c4, os, most, bus, rfl, hrows, hm0, hm1⟩
    obtain ⟨hs1, h1, h2, h3, h4⟩ := lawSo_start (c1 := c1) hrows
    have S1 := Lib.hid hs1
    clear hs1 hr hrows hm0 hm1
    go_wp2_with fail
    refine (roomAt_any bs A1 ls.length c1 ls A2 ts.length c2 ts A3 us.length c3 us A4 os.length c4 os most bus _ h1 S1.out.row h2 S1.out.tr h3 S1.out.bu h4 S1.out.oh).mono ?_
    rintro e w2 ⟨rfl, hb2⟩
    have S2 := Lib.hid (S1.out.next hb2)
    obtain ⟨p0, p1, _, _⟩ := S2.out.net.two
    clear S1 hb2
    generalize w1.heap.size = X at *
    go_wp2_with fail
    refine (specRoomAt_any bs A1 ls.length c1 ls A2 ts.length c2 ts A3 us.length c3 us A4 os.length c4 os most bus _ h1 S2.out.row h2 S2.out.tr h3 S2.out.bu h4 S2.out.oh).mono ?_
    rintro e w3 ⟨rfl, hb3⟩
    have S3 := Lib.hid (S2.out.next hb3)
    clear S2 hb3 p0 p1
    obtain ⟨p0, p1, _, _⟩ := S3.out.net.two
    by_cases hneg : rooF bs ls ts us os most bus < 0
    · rw [roo_min hneg]
      clear hneg
      go_wp2_with fail
      refine (alive_any _).mono ?_
      rintro e w6 ⟨rfl, hb6⟩
      go_wp2
      go_ret
      exact ⟨rfl, S3.out.bel.trans (hb6.mono S3.out.bel.size)⟩
    · obtain ⟨b, nb, x, rfl, rfl, hb, hnb, hul, hbu, hx, hle, hd1, hd2⟩ := roo_pos hneg
      rw [hx]
      have HD1 := Lib.hid hd1
      have HD2 := Lib.hid hd2
      have hld0 := (ld_bd hbu b).1
      have hbul : b < us.length := by omega
      have HUL := Lib.hid hul
      have xx0 : ¬ (x : Int) < 0 := by omega
      obtain ⟨b', off', u0, hA3, _, hku, _, _⟩ := S3.out.bu.at_ hbul
      subst hA3
      have HKL := Lib.hid hku
      have HLD := Lib.hid (ld_at hku)
      have HFD := Lib.hid (fd_at hku)
      have HLM := Lib.hid (show ld (moreU us b (x : Int)) b = ld us b + (x : Int) by rw [moreU_ld hbul, if_pos rfl])
      obtain ⟨i0, hi, hz0, hz1, hz2⟩ := info_parts busInfo8
      have HI0 := Lib.hid hi
      have HC := Lib.hid (src_cellsU (S3.out.bu.below (below_bx w3 (.cells #[] 34))))
      have HL1 := Lib.hid (show (us.flatMap fU).length = us.length * 2 by rw [flat_len fU_len])
      have HO0 := Lib.hid (World.ownsRow_lit (base := w3.heap.size) (size := 2) (e := 34) w3 #[] 0 (by omega) (by decide) rfl)
      rw [HLD.out] at hld0 hle
      have ii0 : (0 : Int) ≤ (b : Int) := by omega
      have ii1 : (b : Int) < (us.length : Int) := by omega
      clear hneg hx hd1 hd2 hku hul hbu hi
      go_upto_region 10 with (
        at_builtin
        refine wpList_append_own _ rfl _ _ _ rfl w3.heap.size 34 i0 (.agg #[.int .i64 0, .int .i64 0]) 2 16 Tryd.underlying27 HI0.out hz0 hz1 hz2 rfl (by decide) _ _ _ rfl HO0.out ⟨b', off', none⟩ us.length c3 (us.flatMap fU) rfl HL1.out ?c1 ?c2 ?c3 ?c4 ?c5 ?_
        case c1 => exact HC.out
        case c2 => exact int_oneU us
        case c3 => simp only [maxLen]; omega
        case c4 => omega
        case c5 => simp
        intro v' w4 hown' hgrow _
        have hb4 : Below w3.heap.size w3 w4 := (below_bx w3 _).grown hgrow (by simp) (fun q hq => (World.ownsRow.lt HO0.out q hq).1))
      have hO4 : OwnU w4 w3.heap.size v' us := by
        show World.ownsRow _ _ _ _ _ us.length _
        simpa using hown'
      obtain ⟨ux, y⟩ := u0
      simp only at hld0 hle
      obtain ⟨g, cap, rfl, hg, hgl, hfr, _, hput⟩ := OwnU.put (u' := (ux, y + (x : Int))) (x := .int .i64 (y + (x : Int))) hO4 HKL.out (show 1 < 2 by decide) rfl
      obtain ⟨A5, c5, e5, hU5⟩ := hO4.row
      injection e5 with e51 _ e53
      subst e51 e53
      obtain ⟨b6, off6, u6, e6, _, hku6, _, q1⟩ := hU5.at_ hbul
      injection e6 with e6
      injection e6 with e61 e62
      subst e61 e62
      rw [HKL.out] at hku6
      injection hku6 with hku6
      subst hku6
      rw [Nat.zero_add] at q1
      have HM := Lib.hid (show us.set b (ux, y + (x : Int)) = moreU us b (x : Int) by rw [moreU, HFD.out, HLD.out])
      rw [HM.out] at hput
      obtain ⟨A7, c7, e7, hU7⟩ := hput.row
      rw [moreU_len] at e7 hU7
      injection e7 with e71 _ e73
      subst e71 e73
      have b5 : Below w3.heap.size w3 (w4.setCell ⟨g, b * 2 + 1, none⟩ (.int .i64 (y + (x : Int)))) := hb4.setCell hg _
      have S5 := Lib.hid (S3.out.next b5)
      have HU7 := Lib.hid hU7
      have hwr : IntKind.i64.wrap (y + (x : Int)) = y + (x : Int) := IntWalk.i64_in _ (by omega)
      obtain ⟨r0, r1, _, _⟩ := S5.out.net.two
      clear hown' hgrow hO4 hU5 hput hU7 p0 p1 b5
      go_wp2_with fail
      refine (dropsWithin_any nb A1 ls.length c1 ls A2 ts.length c2 ts (some ⟨g, 0, none⟩) us.length _ (moreU us b (x : Int)) A4 os.length c4 os most _ h1 S5.out.row h2 S5.out.tr h3 HU7.out h4 S5.out.oh).mono ?_
      rintro e w6 ⟨rfl, hb6⟩
      rw [HD1.out]
      have S6 := Lib.hid (S5.out.next hb6)
      have HU6 := Lib.hid (HU7.out.below hb6)
      clear r0 r1 q1 hfr hb6 HU7 S5
      obtain ⟨p0, p1, _, _⟩ := S6.out.net.two
      obtain ⟨b8, off8, u8, e8, hb8, hku8, _, g1⟩ := HU6.out.at_ hbul
      injection e8 with e8
      injection e8 with e81 e82
      subst e81 e82
      have hu8 : u8.2 = y + (x : Int) := by rw [← ld_at hku8, HLM.out, HLD.out]
      rw [hu8, Nat.zero_add] at g1
      clear hku8 hu8
      by_cases hmx : y + (x : Int) = 999
      · have hdec : (y + (x : Int) == 999) = true := by simpa using hmx
        clear hmx
        go_wp2
        go_quiet (fail)
        go_wp2
        go_ret
        exact ⟨rfl, below_drewN S6.out.bel _⟩
      · have hdec : (y + (x : Int) == 999) = false := by rw [beq_eq_false_iff_ne]; exact hmx
        have HD3 := Lib.hid (HD2.out (by rw [HLD.out]; show y + (x : Int) < 999; omega))
        have CW := Lib.hid (fun (W : World) (hW : Below w6.heap.size w6 W) => oneMore_any (some ⟨g, 0, none⟩) us.length cap (moreU us b (x : Int)) b W h3 (HU6.out.below hW) hbul (by rw [HLM.out, HLD.out]; exact ⟨by show 0 ≤ y + (x : Int); omega, hle⟩))
        have HMM := Lib.hid (moreU_more (us := us) hbul (x : Int) 1)
        have CI := Lib.hid (fun (W : World) (hW : Below w6.heap.size w6 W) (A9 : Option Addr) (c9 : Nat) (hU9 : RowU W A9 us.length (moreU (moreU us b (x : Int)) b 1)) => show Calls Tryd.prog 18 #[.agg #[.int .i64 (nb : Int), .slice A1 ls.length c1], .slice A2 ts.length c2, .slice A9 us.length c9, .slice A4 os.length c4, .int .i64 most] W (fun e w' => e = .returned (.bool false) ∧ Below W.heap.size W w') by
          rw [HMM.out] at hU9
          rw [← HD3.out]
          exact dropsWithin_any nb A1 ls.length c1 ls A2 ts.length c2 ts A9 us.length c9 (moreU us b ((x : Int) + 1)) A4 os.length c4 os most W h1 (S6.out.next hW).row h2 (S6.out.next hW).tr h3 hU9 h4 (S6.out.next hW).oh)
        have HXl := S6.out.net.lt
        clear hmx
        go_wp2
        go_region_held3 (fun w' => Below w6.heap.size w6 w' ∧ w'.cell? ⟨X, 0, none⟩ = some (.int .i64 (nb : Int)) ∧ w'.cell? ⟨X, 1, none⟩ = some (.slice A1 ls.length c1) ∧ w'.cell? ⟨g, b * 2 + 1, none⟩ = some (.int .i64 (y + (x : Int))))
          (first | exact holdL p0 p1 HXl g1 hb8 (Below.refl _ _) hB8 | exact holdL p0 p1 HXl g1 hb8 (Below.refl _ _) hB7 | exact holdL p0 p1 HXl g1 hb8 (Below.refl _ _) (Below.refl _ _) | exact holdL p0 p1 HXl g1 hb8 (Below.refl _ _) (Below.drew (Below.refl _ _)))
          (first
            | (go_at_call 11; (with_reducible refine (CW.out _ (And.left (by assumption))).mono ?_); rintro e w7 ⟨A9, c9, rfl, hU9, hb7⟩; have hB7 : Below w6.heap.size w6 w7 := (Below.drew (Below.refl _ _)).trans hb7)
            | (go_at_call 18; (with_reducible refine (CI.out _ hB7 A9 c9 hU9).mono ?_); rintro e w8 ⟨rfl, hb9⟩; have hB8 : Below w6.heap.size w6 w8 := hB7.trans (hb9.mono hB7.size)))
        go_wp2
        go_ret
        exact ⟨rfl, S6.out.bel.trans (hB8.mono S6.out.bel.size)⟩
  · have hl2 : (1048576 : Int) < (n : Int) := by omega
    go_enter Tryd.func6, Tryd.ntmps6
    go_wp2
    go_ret
    exact ⟨rfl, Below.refl _ _⟩
end Go.Proofs.YtpmkeagdoehbhaaDoor
