/- FnDropAt: the walk. -/
import Derived.Test.YtpmkeagdoehbhaaDoorX9
import Derived.Deep.RegionHeld3
namespace Go.Proofs.YtpmkeagdoehbhaaDoor
open Go.ChangeShapes Go.WideShapes Go.ChangeAt Go.RowKit

set_option linter.unusedSimpArgs false in
set_option maxRecDepth 100000 in
set_option maxHeartbeats 8000000 in
theorem dropAtL_walk (w : World) (A : Option Addr) (n c : Nat) (code : List Int) (hr : RowB w A n code) (hnc : n ≤ c) (hc : c ≤ 9223372036854775807) :
    Calls Tryd.prog 3 #[.slice A n c] w fun e w' => e = .returned (.bool true) ∧ Below w.heap.size w w' := by
  by_cases hlen : n ≤ 1048576
  · go_enter Tryd.func3, Tryd.ntmps3
    go_wp2_with fail
    refine (drawDropAt_any A n c code _ hr hnc hc).mono ?_
    rintro e w1 ⟨bs, A1, c1, ls, A2, c2, ts, A3, c3, us, A4, c4, os, bus, rfl, hrows⟩
    obtain ⟨hs1, h1, h2, h3, h4⟩ := lawSo_start (c1 := c1) hrows
    have S1 := Lib.hid hs1
    clear hs1 hr hrows
    go_wp2_with fail
    refine (dropAt_any bs A1 ls.length c1 ls A2 ts.length c2 ts A3 us.length c3 us A4 os.length c4 os bus _ h1 S1.out.row h2 S1.out.tr h3 S1.out.bu h4 S1.out.oh).mono ?_
    rintro e w2 ⟨rfl, hb2⟩
    have S2 := Lib.hid (S1.out.next hb2)
    obtain ⟨p0, p1, _, _⟩ := S2.out.net.two
    clear S1 hb2
    generalize w1.heap.size = X at *
    go_wp2_with fail
    refine (specDropAt_any bs A1 ls.length c1 ls A2 ts.length c2 ts A3 us.length c3 us A4 os.length c4 os bus _ h1 S2.out.row h2 S2.out.tr h3 S2.out.bu h4 S2.out.oh).mono ?_
    rintro e w3 ⟨rfl, hb3⟩
    have S3 := Lib.hid (S2.out.next hb3)
    clear S2 hb3 p0 p1
    obtain ⟨p0, p1, _, _⟩ := S3.out.net.two
    by_cases hneg : drpF bs ls ts us os bus < 0
    · rw [drpF_neg hneg]
      clear hneg
      go_wp2_with fail
      refine (alive_any _).mono ?_
      rintro e w6 ⟨rfl, hb6⟩
      go_wp2
      go_ret
      exact ⟨rfl, S3.out.bel.trans (hb6.mono S3.out.bel.size)⟩
    · have hnn : 0 ≤ drpF bs ls ts us os bus := by omega
      obtain ⟨b, nb, rfl, rfl, hb, hnb, hok, hul, _, hdq⟩ := drpF_pos hnn
      clear hdq
      have HBU := Lib.hid (okU_bu (radF_iff.1 (okO_iff.1 hok).1).1)
      have HINC := Lib.hid (fun (k : Nat) (hk : k < us.length) (hl : ld us k < 999) => drop_inc hnn hk hl)
      have HFEED := Lib.hid (fun (h : plnF nb ls ts us b < 0) => drop_feed hnn h)
      have HWAY := Lib.hid (fun (h : ¬ plnF nb ls ts us b < 0) => drop_way hnn h)
      have HUL := Lib.hid hul
      clear hok hul hneg
      generalize hx : drpF (nb : Int) ls ts us os (b : Int) = x at *
      clear hx
      go_wp2
      go_loopw [9] (fun i wr => ∃ k : Nat, k ≤ nb ∧ i = .int .i64 k ∧ Below w3.heap.size w3 wr) (fun i _ => nb - (intOf i).toNat)
      case atStart => exact ⟨0, by omega, rfl, Below.refl _ _⟩
      case round =>
        obtain ⟨k, hk, rfl, hbel⟩ := hrel
        have S5 := Lib.hid (S3.out.next hbel)
        clear p0 p1
        obtain ⟨p0, p1, _, _⟩ := S5.out.net.two
        by_cases hlt : k < nb
        · have hltu : k < us.length := by have := HUL.out; omega
          have ii0 : (0 : Int) ≤ (k : Int) := by omega
          have ii1 : (k : Int) < (us.length : Int) := by omega
          obtain ⟨b', off', u, hA3, hb', hku, _, g1⟩ := S5.out.bu.at_ hltu
          have HLD := Lib.hid (ld_at hku)
          have hld := ld_bd HBU.out k
          have HXl := S5.out.net.lt
          subst hA3
          clear hku
          by_cases hmx : u.2 < 999
          · have HI := Lib.hid (HINC.out k hltu (by rw [HLD.out]; exact hmx))
            have CW := Lib.hid (fun (W : World) (hW : Below w3.heap.size w3 W) => oneMore_any (some ⟨b', off', none⟩) us.length c3 us k W h3 (S3.out.next hW).bu hltu hld)
            have CI := Lib.hid (fun (W : World) (hW : Below w3.heap.size w3 W) (A5 : Option Addr) (c5 : Nat) (hU5 : RowU W A5 us.length (moreU us k 1)) => dropAt_any nb A1 ls.length c1 ls A2 ts.length c2 ts A5 us.length c5 (moreU us k 1) A4 os.length c4 os b W h1 (S3.out.next hW).row h2 (S3.out.next hW).tr h3 hU5 h4 (S3.out.next hW).oh)
            generalize drpF (nb : Int) ls ts (moreU us k 1) os (b : Int) = y at *
            have hlxy : ¬ y < x := by have := HI.out; omega
            have hdec : decide (u.2 < 999) = true := by simpa using hmx
            clear hmx hld
            go_wp2
            go_region_held3 (fun w' => Below w3.heap.size w3 w' ∧ w'.cell? ⟨X, 0, none⟩ = some (.int .i64 (nb : Int)) ∧ w'.cell? ⟨X, 1, none⟩ = some (.slice A1 ls.length c1) ∧ w'.cell? ⟨b', off' + k * 2 + 1, none⟩ = some (.int .i64 u.2))
              (first | exact holdL p0 p1 HXl g1 hb' hbel hB6 | exact holdL p0 p1 HXl g1 hb' hbel hB5 | exact holdL p0 p1 HXl g1 hb' hbel (Below.refl _ _) | exact holdL p0 p1 HXl g1 hb' hbel (Below.drew (Below.refl _ _)))
              (first
                | (go_at_call 11; (with_reducible refine (CW.out _ (And.left (by assumption))).mono ?_); rintro e w5 ⟨A5, c5, rfl, hU5, hb5⟩; have hB5 : Below wr.heap.size wr w5 := (Below.drew (Below.refl _ _)).trans hb5)
                | (go_at_call 8; (with_reducible refine (CI.out _ (hbel.trans (hB5.mono hbel.size)) A5 c5 hU5).mono ?_); rintro e w6 ⟨rfl, hb6⟩; have hB6 : Below wr.heap.size wr w6 := hB5.trans (hb6.mono hB5.size)))
            go_wp2
            go_roundw
            case rel => exact ⟨k + 1, by omega, by go_num, hbel.trans (hB6.mono hbel.size)⟩
            case measure => simp [intOf]; omega
          · have hdec : decide (u.2 < 999) = false := by simpa using hmx
            clear hmx
            go_wp2
            go_quiet (fail)
            go_wp2
            go_roundw
            case rel => exact ⟨k + 1, by omega, by go_num, below_drewN hbel _⟩
            case measure => simp [intOf]; omega
        · go_wp2_with fail
          refine (parentLine_any nb A1 ls.length c1 ls A2 ts.length c2 ts A3 us.length c3 us b _ h1 S5.out.row h2 S5.out.tr h3 S5.out.bu).mono ?_
          rintro e w6 ⟨rfl, hb6⟩
          have S6 := Lib.hid (S5.out.next hb6)
          clear p0 p1
          obtain ⟨p0, p1, _, _⟩ := S6.out.net.two
          by_cases hp : plnF nb ls ts us b < 0
          · have HF := Lib.hid (HFEED.out hp)
            generalize plnF (nb : Int) ls ts us (b : Int) = P at *
            obtain rfl : x = 0 := HF.out
            go_wp2
            go_ret
            exact ⟨rfl, S6.out.bel⟩
          · have HW := Lib.hid (HWAY.out (by omega))
            generalize plnF (nb : Int) ls ts us (b : Int) = P at *
            have CW := Lib.hid (fun (W : World) (hW : Below w6.heap.size w6 W) => otherEnd_any nb A1 ls.length c1 ls P b W h1 (S6.out.next hW).row)
            generalize otherF (nb : Int) ls P (b : Int) = Q at *
            have CI := Lib.hid (fun (W : World) (hW : Below w6.heap.size w6 W) => dropAt_any nb A1 ls.length c1 ls A2 ts.length c2 ts A3 us.length c3 us A4 os.length c4 os Q W h1 (S6.out.next hW).row h2 (S6.out.next hW).tr h3 (S6.out.next hW).bu h4 (S6.out.next hW).oh)
            generalize drpF (nb : Int) ls ts us os Q = y at *
            have hXl := S6.out.net.lt
            have hle : y ≤ x := HW.out
            go_wp2
            go_region_held3 (fun w' => Below w6.heap.size w6 w' ∧ w'.cell? ⟨X, 0, none⟩ = some (.int .i64 (nb : Int)) ∧ w'.cell? ⟨X, 1, none⟩ = some (.slice A1 ls.length c1))
              (first | exact holdO p0 p1 hXl hB8 | exact holdO p0 p1 hXl hB7 | exact holdO p0 p1 hXl (Below.refl _ _) | exact holdO p0 p1 hXl (Below.drew (Below.refl _ _)))
              (first
                | (go_at_call 13; (with_reducible refine (CW.out _ (And.left (by assumption))).mono ?_); rintro e w7 ⟨rfl, hb7⟩; have hB7 : Below w6.heap.size w6 w7 := (Below.drew (Below.refl _ _)).trans hb7)
                | (go_at_call 8; (with_reducible refine (CI.out _ hB7).mono ?_); rintro e w8 ⟨rfl, hb8⟩; have hB8 : Below w6.heap.size w6 w8 := hB7.trans (hb8.mono hB7.size)))
            go_wp2
            go_ret
            exact ⟨rfl, S6.out.bel.trans (hB8.mono S6.out.bel.size)⟩
  · have hl2 : (1048576 : Int) < (n : Int) := by omega
    go_enter Tryd.func3, Tryd.ntmps3
    go_wp2
    go_ret
    exact ⟨rfl, Below.refl _ _⟩
end Go.Proofs.YtpmkeagdoehbhaaDoor
