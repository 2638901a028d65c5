/- FnNetGood: the walk. -/
import Derived.Test.YtbhlkcnkijihcaaDoorO2
import Derived.Test.YtbhlkcnkijihcaaDoorBCD
import Derived.Deep.RegionHeld3
namespace Go.Proofs.YtbhlkcnkijihcaaDoor
open Go.ChangeShapes Go.WideShapes Go.ChangeAt Go.RowKit

set_option maxRecDepth 100000 in
set_option maxHeartbeats 8000000 in
theorem netGoodL_walk (w : World) (A : Option Addr) (n c : Nat) (code : List Int) (hr : RowB w A n code) (hnc : n ≤ c) (hc : c ≤ 9223372036854775807) :
    Calls Tryd.prog 10 #[.slice A n c] w fun e w' => e = .returned (.bool true) ∧ Below w.heap.size w w' := by
  by_cases hlen : n ≤ 1048576
  · go_enter Tryd.func10, Tryd.ntmps10
    go_wp2_with fail
    refine (drawNetGood_any A n c code _ hr hnc hc).mono ?_
    rintro e w1 ⟨bs, A1, c1, ls, A2, c2, ts, A3, c3, us, rfl, hrow, hls, hb0, hb9, hrt, hts, hru, hus, a1⟩
    have hbx := below_bx w1 (.cells #[.int .i64 bs, .slice A1 ls.length c1] 25)
    have S1 := Lib.hid (show LawSt w (w1.alloc (.cells #[.int .i64 bs, .slice A1 ls.length c1] 25)) w1.heap.size bs A1 c1 ls A2 ts A3 us from ⟨a1.alloc a1.size _, IsBlk.new w1 25 #[.int .i64 bs, .slice A1 ls.length c1], hrow.below hbx, hrt.below hbx, hru.below hbx⟩)
    clear hrow hr hrt hru a1 hbx
    have h1 : ls.length ≤ 1048576 := by omega
    have h2 : ts.length ≤ 1048576 := by omega
    have h3 : us.length ≤ 1048576 := by omega
    go_wp2_with fail
    refine (netGood_any bs A1 ls.length c1 ls A2 ts.length c2 ts A3 us.length c3 us _ h1 S1.out.row h2 S1.out.tr h3 S1.out.bu).mono ?_
    rintro e w2 ⟨rfl, hb2⟩
    have S2 := Lib.hid (S1.out.next hb2)
    obtain ⟨p0, p1, _, _⟩ := S2.out.net.two
    clear S1 hb2
    generalize w1.heap.size = X at *
    go_wp2_with fail
    refine (specNetGood_any bs A1 ls.length c1 ls A2 ts.length c2 ts A3 us.length c3 us _ h1 S2.out.row h2 S2.out.tr h3 S2.out.bu).mono ?_
    rintro e w3 ⟨rfl, hb3⟩
    have S3 := Lib.hid (S2.out.next hb3)
    clear S2 hb3 p0 p1
    obtain ⟨p0, p1, _, _⟩ := S3.out.net.two
    cases hx : godF bs ls ts us
    · go_wp2_with fail
      refine (alive_any _).mono ?_
      rintro e w6 ⟨rfl, hb6⟩
      go_wp2
      go_ret
      exact ⟨rfl, S3.out.bel.trans (hb6.mono S3.out.bel.size)⟩
    · have hr0 := (godF_iff.1 hx).1
      have ho := (radF_iff.1 hr0).1
      have hbs := okU_bs ho
      obtain ⟨nb, rfl⟩ := Int.eq_ofNat_of_zero_le (show 0 ≤ bs by omega)
      have hnb : nb ≤ 8 := by omega
      have hul : us.length = nb := by have := busesOk_len (okU_bu ho); omega
      have HBU := Lib.hid (okU_bu ho)
      have HST := Lib.hid (okU_st ho)
      have HOFF := Lib.hid (fun (j : Nat) => god_off hx j)
      have HAL := Lib.hid (fun (b : Nat) (hb : b < nb) => alive_fed ho hb)
      have HSER := Lib.hid (god_ser hx)
      have HUL := Lib.hid hul
      have hla : (aliF nb ls ts us).length ≤ 1048576 := Nat.le_trans (aliF_len _ _ _ _) (by decide)
      clear ho hx hul hr0
      go_wp2
      go_loopw [7] (fun i wr => ∃ k : Nat, k ≤ ts.length ∧ i = .int .i64 k ∧ Below w3.heap.size w3 wr) (fun i _ => ts.length - (intOf i).toNat)
      case atStart => exact ⟨0, by omega, rfl, Below.refl _ _⟩
      case round =>
        obtain ⟨k, hk, rfl, hbel⟩ := hrel
        have S5 := Lib.hid (S3.out.next hbel)
        clear p0 p1
        obtain ⟨p0, p1, _, _⟩ := S5.out.net.two
        by_cases hlt : k < ts.length
        · have HOK := Lib.hid (HOFF.out k)
          have hs := HST.out
          go_wp2_with fail
          refine (offOn_any nb A1 ls.length c1 ls A2 ts.length c2 ts k _ h1 S5.out.row h2 S5.out.tr).mono ?_
          rintro e w6 ⟨va, vb, rfl, hOa, hOb, hb6⟩
          rw [swV_at hlt hs] at hOa hOb
          have S6 := Lib.hid (S5.out.next hb6)
          obtain ⟨Aa, ca, rfl, _, hTa⟩ := hOa.row
          obtain ⟨Ab, cb, rfl, _, hTb⟩ := hOb.row
          rw [List.length_set] at hTa hTb ⊢
          rw [List.length_set]
          have Q6 := Lib.hid hTa
          have hbel6 := hbel.trans (hb6.mono hbel.size)
          clear hTa hTb hOa hOb p0 p1 hs
          obtain ⟨p0, p1, _, _⟩ := S6.out.net.two
          go_wp2_with fail
          refine (netGood_any nb A1 ls.length c1 ls Aa ts.length ca (ts.set k false) A3 us.length c3 us _ h1 S6.out.row h2 Q6.out h3 S6.out.bu).mono ?_
          rintro e w7 ⟨rfl, hb7⟩
          rw [HOK.out]
          clear p0 p1
          go_wp2
          go_roundw
          case rel => exact ⟨k + 1, by omega, by go_num, hbel6.trans (hb7.mono hbel6.size)⟩
          case measure => simp [intOf]; omega
        · go_wp2_with fail
          refine (alive5_any nb A1 ls.length c1 ls A2 ts.length c2 ts A3 us.length c3 us _ h1 S5.out.row h2 S5.out.tr h3 S5.out.bu).mono ?_
          rintro e w6 ⟨v6, rfl, hO6, hb6⟩
          have S6 := Lib.hid (S5.out.next hb6)
          have L6 := Lib.hid hO6
          obtain ⟨A6, c6, rfl, _⟩ := hO6.sl
          clear S5 hb6 hO6 p0 p1
          obtain ⟨p0, p1, _, _⟩ := S6.out.net.two
          generalize aliF (nb : Int) ls ts us = xs at *
          go_wp2
          go_loopw [10, 12] (fun s i wr => ∃ k : Nat, k ≤ nb ∧ i = .int .i64 k ∧ s = .int .i64 (gsum (fedB (edgesOn ls ts) us) (ld us) k) ∧ Below w6.heap.size w6 wr) (fun _ i _ => nb - (intOf i).toNat)
          case atStart => exact ⟨0, by omega, rfl, rfl, Below.refl _ _⟩
          case round =>
            obtain ⟨b, hbk, rfl, rfl, hbel2⟩ := hrel
            have S7 := Lib.hid (S6.out.next hbel2)
            have L7 := Lib.hid (OwnI.keep L6.out hbel2)
            clear p0 p1
            obtain ⟨p0, p1, _, _⟩ := S7.out.net.two
            by_cases hltb : b < nb
            · have hltu : b < us.length := by have := HUL.out; omega
              have ii0 : (0 : Int) ≤ (b : Int) := by omega
              have ii1 : (b : Int) < (us.length : Int) := by omega
              have hd1 := fsum_al (p := fedB (edgesOn ls ts) us) (k := b) HBU.out (by omega)
              have hl1 := ld_bd HBU.out b
              obtain ⟨tv, htv⟩ : ∃ t, decide ((b : Int) ∈ xs) = t := ⟨_, rfl⟩
              have HTV := Lib.hid htv
              have HFE := Lib.hid (show fedB (edgesOn ls ts) us b = tv by rw [← HAL.out b hltb, htv])
              clear htv
              cases tv
              · have HN := Lib.hid (gsum_no (f := ld us) HFE.out)
                go_wp2_with fail
                refine (hasInt_v _ xs b HTV.out _ hla L7.out.row).mono ?_
                rintro e wz ⟨rfl, hbz⟩
                go_wp2
                go_roundw
                case rel => exact ⟨b + 1, by omega, by go_num, by rw [HN.out], hbel2.trans (hbz.mono hbel2.size)⟩
                case measure => simp [intOf]; omega
              · have HN := Lib.hid (gsum_yes (f := ld us) HFE.out)
                generalize hD : gsum (fedB (edgesOn ls ts) us) (ld us) b = D at *
                clear hD
                go_wp2_with fail
                refine (hasInt_v _ xs b HTV.out _ hla L7.out.row).mono ?_
                rintro e wz ⟨rfl, hbz⟩
                obtain ⟨b', off', u, hA3, hb', hku, _, g1⟩ := (S7.out.next hbz).bu.at_ hltu
                have HLD := Lib.hid (ld_at hku)
                rw [HLD.out] at hl1
                subst hA3
                clear hku
                have hw2 : IntKind.i64.wrap (D + u.2) = D + u.2 := IntWalk.i64_in _ (by omega)
                go_wp2
                go_roundw
                case rel => exact ⟨b + 1, by omega, by go_num, by rw [HN.out, HLD.out], hbel2.trans (hbz.mono hbel2.size)⟩
                case measure => simp [intOf]; omega
            · obtain rfl : b = nb := by omega
              have hbs8 := hb9
              go_wp2_with fail
              refine (served_any b A1 ls.length c1 ls A2 ts.length c2 ts A3 us.length c3 us _ h1 S7.out.row h2 S7.out.tr h3 S7.out.bu).mono ?_
              rintro e wz ⟨rfl, hbz⟩
              rw [HSER.out]
              have b9 := S7.out.bel
              generalize gsum (fedB (edgesOn ls ts) us) (ld us) b = D at *
              go_wp2
              go_ret
              exact ⟨rfl, b9.trans (hbz.mono b9.size)⟩
  · have hl2 : (1048576 : Int) < (n : Int) := by omega
    go_enter Tryd.func10, Tryd.ntmps10
    go_wp2
    go_ret
    exact ⟨rfl, Below.refl _ _⟩
end Go.Proofs.YtbhlkcnkijihcaaDoor
