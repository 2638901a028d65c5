/- FnFeedFlow: the walk. -/
import Derived.Test.YtbhlkcnkijihcaaDoorO2
import Derived.Deep.RegionHeld3
namespace Go.Proofs.YtbhlkcnkijihcaaDoor
open Go.ChangeShapes Go.WideShapes Go.ChangeAt Go.RowKit

set_option maxRecDepth 100000 in
set_option maxHeartbeats 8000000 in
theorem feedFlowL_walk (w : World) (A : Option Addr) (n c : Nat) (code : List Int) (hr : RowB w A n code) (hnc : n ≤ c) (hc : c ≤ 9223372036854775807) :
    Calls Tryd.prog 8 #[.slice A n c] w fun e w' => e = .returned (.bool true) ∧ Below w.heap.size w w' := by
  by_cases hlen : n ≤ 1048576
  · go_enter Tryd.func8, Tryd.ntmps8
    go_wp2_with fail
    refine (drawFeedFlow_any A n c code _ hr hnc hc).mono ?_
    rintro e w1 ⟨bs, A1, c1, ls, A2, c2, ts, A3, c3, us, bus, rfl, hrow, hls, hb0, hb9, hrt, hts, hru, hus, a1⟩
    have hbx := below_bx w1 (.cells #[.int .i64 bs, .slice A1 ls.length c1] 25)
    have S1 := Lib.hid (show LawSt w (w1.alloc (.cells #[.int .i64 bs, .slice A1 ls.length c1] 25)) w1.heap.size bs A1 c1 ls A2 ts A3 us from ⟨a1.alloc a1.size _, IsBlk.new w1 25 #[.int .i64 bs, .slice A1 ls.length c1], hrow.below hbx, hrt.below hbx, hru.below hbx⟩)
    clear hrow hr hrt hru a1 hbx
    have h1 : ls.length ≤ 1048576 := by omega
    have h2 : ts.length ≤ 1048576 := by omega
    have h3 : us.length ≤ 1048576 := by omega
    go_wp2_with fail
    refine (feedFlow_any bs A1 ls.length c1 ls A2 ts.length c2 ts A3 us.length c3 us bus _ h1 S1.out.row h2 S1.out.tr h3 S1.out.bu).mono ?_
    rintro e w2 ⟨rfl, hb2⟩
    have S2 := Lib.hid (S1.out.next hb2)
    obtain ⟨p0, p1, _, _⟩ := S2.out.net.two
    clear S1 hb2
    generalize w1.heap.size = X at *
    go_wp2_with fail
    refine (specFeedFlow_any bs A1 ls.length c1 ls A2 ts.length c2 ts A3 us.length c3 us bus _ h1 S2.out.row h2 S2.out.tr h3 S2.out.bu).mono ?_
    rintro e w3 ⟨rfl, hb3⟩
    have S3 := Lib.hid (S2.out.next hb3)
    clear S2 hb3 p0 p1
    obtain ⟨p0, p1, _, _⟩ := S3.out.net.two
    go_wp2_with fail
    refine (specRadial_any bs A1 ls.length c1 ls A2 ts.length c2 ts A3 us.length c3 us _ h1 S3.out.row h2 S3.out.tr h3 S3.out.bu).mono ?_
    rintro e w5 ⟨rfl, hb5⟩
    have S5 := Lib.hid (S3.out.next hb5)
    clear S3 hb5 p0 p1
    obtain ⟨p0, p1, _, _⟩ := S5.out.net.two
    cases hx : radF bs ls ts us
    · rw [ffl_bad hx]
      go_wp2_with fail
      refine (alive_any _).mono ?_
      rintro e w6 ⟨rfl, hb6⟩
      go_wp2
      go_ret
      exact ⟨rfl, S5.out.bel.trans (hb6.mono S5.out.bel.size)⟩
    · have ho := (radF_iff.1 hx).1
      have hbs := okU_bs ho
      obtain ⟨nb, rfl⟩ := Int.eq_ofNat_of_zero_le (show 0 ≤ bs by omega)
      have hnb : nb ≤ 8 := by omega
      have hul : us.length = nb := by have := busesOk_len (okU_bu ho); omega
      have HBU := Lib.hid (okU_bu ho)
      have HFF := Lib.hid (fun (b : Nat) (hb : b < nb) => ffl_at hx hb)
      have HAL := Lib.hid (fun (b : Nat) (hb : b < nb) => alive_fed ho hb)
      have HEND := Lib.hid (diff_end hx)
      have HUL := Lib.hid hul
      have hla : (aliF nb ls ts us).length ≤ 1048576 := Nat.le_trans (aliF_len _ _ _ _) (by decide)
      clear ho hx hul
      generalize hZ : fflF (nb : Int) ls ts us bus = Z at *
      clear hZ
      go_wp2_with fail
      refine (alive5_any nb A1 ls.length c1 ls A2 ts.length c2 ts A3 us.length c3 us _ h1 S5.out.row h2 S5.out.tr h3 S5.out.bu).mono ?_
      rintro e w6 ⟨v6, rfl, hO6, hb6⟩
      have S6 := Lib.hid (S5.out.next hb6)
      have L6 := Lib.hid hO6
      obtain ⟨A6, c6, rfl, _⟩ := hO6.sl
      clear S5 hb6 hO6 p0 p1
      obtain ⟨p0, p1, _, _⟩ := S6.out.net.two
      generalize aliF (nb : Int) ls ts us = xs at *
      go_wp2
      go_loopw [8, 10] (fun s i wr => ∃ k : Nat, k ≤ nb ∧ i = .int .i64 k ∧ s = .int .i64 (diffF ls ts us nb k) ∧ Below w6.heap.size w6 wr) (fun _ i _ => nb - (intOf i).toNat)
      case atStart => exact ⟨0, by omega, rfl, by simp [diffF, gsum], Below.refl _ _⟩
      case round =>
        obtain ⟨k, hk, rfl, rfl, hbel⟩ := hrel
        have S7 := Lib.hid (S6.out.next hbel)
        have L7 := Lib.hid (OwnI.keep L6.out hbel)
        clear p0 p1
        obtain ⟨p0, p1, _, _⟩ := S7.out.net.two
        by_cases hlt : k < nb
        · have hltu : k < us.length := by have := HUL.out; omega
          have ii0 : (0 : Int) ≤ (k : Int) := by omega
          have ii1 : (k : Int) < (us.length : Int) := by omega
          have HN := Lib.hid (diff_next (ls := ls) (ts := ts) (us := us) (nb := nb) k)
          have hd1 := diff_bd (ls := ls) (ts := ts) (k := k) HBU.out hnb (by omega)
          have hg1 := givF_bd (ls := ls) (ts := ts) HBU.out hnb k
          have hl1 := ld_bd HBU.out k
          have HFK := Lib.hid (HFF.out k hlt)
          obtain ⟨tv, htv⟩ : ∃ t, decide ((k : Int) ∈ xs) = t := ⟨_, rfl⟩
          have HTV := Lib.hid htv
          rw [← HAL.out k hlt, htv] at HN
          clear htv
          have CF := Lib.hid (fun (W : World) (hW : Below w6.heap.size w6 W) => show Calls Tryd.prog 37 #[.agg #[.int .i64 (nb : Int), .slice A1 ls.length c1], .slice A2 ts.length c2, .slice A3 us.length c3, .int .i64 (k : Int)] W (fun e w' => e = .returned (.int .i64 (givF ls ts us nb k)) ∧ Below W.heap.size W w') by
            rw [← HFK.out]
            exact feedFlow_any nb A1 ls.length c1 ls _ ts.length c2 ts _ us.length c3 us k W h1 (S6.out.next hW).row h2 (S6.out.next hW).tr h3 (S6.out.next hW).bu)
          generalize givF ls ts us nb k = GK at *
          generalize hD : diffF ls ts us nb k = D at *
          clear hD
          have hw1 : IntKind.i64.wrap (D + GK) = D + GK := IntWalk.i64_in _ (by omega)
          go_wp2_with fail
          refine (CF.out _ hbel).mono ?_
          rintro e wy ⟨rfl, hB6⟩
          have hB5 : Below w6.heap.size w6 wy := hbel.trans (hB6.mono hbel.size)
          have L8 := Lib.hid (OwnI.keep L7.out hB6)
          have S8 := Lib.hid (S7.out.next hB6)
          clear p0 p1
          cases tv
          · go_wp2_with fail
            refine (hasInt_v _ xs k HTV.out _ hla L8.out.row).mono ?_
            rintro e wz ⟨rfl, hbz⟩
            go_wp2
            go_roundw
            case rel => exact ⟨k + 1, by omega, by go_num, by rw [HN.out]; simp, hB5.trans (hbz.mono hB5.size)⟩
            case measure => simp [intOf]; omega
          · go_wp2_with fail
            refine (hasInt_v _ xs k HTV.out _ hla L8.out.row).mono ?_
            rintro e wz ⟨rfl, hbz⟩
            obtain ⟨b', off', u, hA3, hb', hku, _, g1⟩ := (S8.out.next hbz).bu.at_ hltu
            have HLD := Lib.hid (ld_at hku)
            rw [HLD.out] at hl1
            subst hA3
            clear hku
            have hw2 : IntKind.i64.wrap (D + GK - u.2) = D + GK - u.2 := IntWalk.i64_in _ (by omega)
            go_wp2
            go_roundw
            case rel => exact ⟨k + 1, by omega, by go_num, by rw [HN.out, HLD.out]; simp, hB5.trans (hbz.mono hB5.size)⟩
            case measure => simp [intOf]; omega
        · obtain rfl : k = nb := by omega
          have b9 := S7.out.bel
          rw [HEND.out]
          go_wp2
          go_ret
          exact ⟨rfl, b9⟩
  · have hl2 : (1048576 : Int) < (n : Int) := by omega
    go_enter Tryd.func8, Tryd.ntmps8
    go_wp2
    go_ret
    exact ⟨rfl, Below.refl _ _⟩
end Go.Proofs.YtbhlkcnkijihcaaDoor
