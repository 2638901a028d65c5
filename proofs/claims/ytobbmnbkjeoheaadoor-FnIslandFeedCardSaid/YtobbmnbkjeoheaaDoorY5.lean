/- FnIslandFeed: the walk. -/
import Derived.Test.YtobbmnbkjeoheaaDoorY4
import Derived.Deep.RegionHeld3
namespace Go.Proofs.YtobbmnbkjeoheaaDoor
open Go.ChangeShapes Go.WideShapes Go.ChangeAt Go.RowKit

set_option maxRecDepth 100000 in
set_option maxHeartbeats 2000000 in
theorem islandFeed_walk (w : World) (A : Option Addr) (n c : Nat) (code : List Int) (hr : RowB w A n code) (hnc : n ≤ c) (hc : c ≤ 9223372036854775807) :
    Calls Tryd.prog 4 #[.slice A n c] w fun e w' => e = .returned (.bool true) ∧ Below w.heap.size w w' := by
  by_cases hlen : n ≤ 1048576
  · go_enter Tryd.func4, Tryd.ntmps4
    go_wp2_with fail
    refine (drawIslandFeed_any A n c code _ hr hnc hc).mono ?_
    rintro e w1 ⟨bs, A1, c1, ls, v, ts, vu, us, bus, rfl, hL, hls, hb0, hb9, hO, hts, hU, hus, a1⟩
    have hrow := hL.rowL
    have hbx := below_bx w1 (.cells #[.int .i64 bs, .slice A1 ls.length c1] 25)
    have HR1 := Lib.hid (hrow.below hbx)
    have k1 := Lib.hid (IsBlk.new w1 25 #[.int .i64 bs, .slice A1 ls.length c1])
    have b1 : Below w.heap.size w (w1.alloc (.cells #[.int .i64 bs, .slice A1 ls.length c1] 25)) := a1.alloc a1.size _
    obtain ⟨A2, c2, rfl, _, hrt⟩ := hO.row
    obtain ⟨A3, c3, rfl, hru⟩ := hU.row
    have T1 := Lib.hid (hrt.below hbx)
    have U1 := Lib.hid (hru.below hbx)
    clear hrow hr hO hrt hU hru hL
    have h1 : ls.length ≤ 1048576 := by omega
    have h2 : ts.length ≤ 1048576 := by omega
    have h3 : us.length ≤ 1048576 := by omega
    go_wp2_with fail
    refine (islandFeed_any bs A1 ls.length c1 ls A2 ts.length c2 ts A3 us.length c3 us bus _ h1 HR1.out h2 T1.out h3 U1.out).mono ?_
    rintro e w2 ⟨rfl, hb2⟩
    have b2 := b1.trans (hb2.mono b1.size)
    have HR2 := Lib.hid (HR1.out.below hb2)
    have k2 := Lib.hid (k1.out.keep hb2)
    have T2 := Lib.hid (T1.out.below hb2)
    have P2 := Lib.hid (U1.out.below hb2)
    clear HR1 k1 T1 U1
    obtain ⟨p0, p1, _, _⟩ := k2.out.two
    go_wp2_with fail
    refine (specFeed_any bs A1 ls.length c1 ls A2 ts.length c2 ts A3 us.length c3 us bus _ h1 HR2.out h2 T2.out h3 P2.out).mono ?_
    rintro e w3 ⟨rfl, hb3⟩
    have b3 := b2.trans (hb3.mono b2.size)
    have HR3 := Lib.hid (HR2.out.below hb3)
    have k3 := Lib.hid (k2.out.keep hb3)
    have T3 := Lib.hid (T2.out.below hb3)
    have U3 := Lib.hid (P2.out.below hb3)
    clear HR2 k2 T2 P2 p0 p1
    rcases feedF_some (bs := bs) (ls := ls) (ts := ts) (us := us) (bus := bus) with hx | ⟨ho, hbu0, hbu1, hx⟩
    · rw [hx]
      go_wp2_with fail
      refine (alive_any _).mono ?_
      rintro e w5 ⟨rfl, hb5⟩
      go_wp2
      go_ret
      exact ⟨rfl, b3.trans (hb5.mono b3.size)⟩
    · have hbs := okU_bs ho
      have hs := okU_st ho
      obtain ⟨nb, rfl⟩ := Int.eq_ofNat_of_zero_le (show 0 ≤ bs by omega)
      obtain ⟨bu, rfl⟩ := Int.eq_ofNat_of_zero_le hbu0
      have hnb : nb ≤ 8 := by omega
      have hul : us.length = nb := by have := busesOk_len (okU_bu ho); omega
      have hfb := fd_bd (okU_bu ho)
      have HXE := Lib.hid (show feedF nb ls ts us bu = isum (edgesOn ls ts) nb (fd us) bu by rw [feedF_ok ho hbu0 hbu1]; rfl)
      have HAll := Lib.hid (fun (k : Nat) (hk : k < nb) => (show feedF nb ls ts us k = isum (edgesOn ls ts) nb (fd us) k by rw [feedF_ok ho (by omega) (by omega)]; rfl))
      have HSam := Lib.hid (fun (k : Nat) (h : samF nb ls ts k bu = true) => (show isum (edgesOn ls ts) nb (fd us) k = isum (edgesOn ls ts) nb (fd us) bu from isum_congr (samF_conn h)))
      obtain ⟨hhl, hhat⟩ := iofF_head hs
      rw [Int.toNat_natCast] at hhl hhat
      have HAt := Lib.hid hhat
      have HTot := Lib.hid (isum_heads (edgesOn ls ts) nb (fd us))
      have hh8 := heads_len (edgesOn ls ts) nb
      have HFB := Lib.hid hfb
      have HBD := Lib.hid (fun (k : Nat) (hk : k ≤ (heads (edgesOn ls ts) nb).length) => lsum_isum_bd (es := edgesOn ls ts) (nb := nb) (k := k) (f := fd us) hfb hnb hk)
      have hgt := gall_bd (k := nb) hfb hnb
      clear hs hhat ho
      rw [hul] at U3 h3 ⊢
      generalize hxx : feedF nb ls ts us bu = x at *
      clear hxx
      have hx0 : ¬ x < 0 := by omega
      go_wp2_with fail
      go_loopw [8, 9] (fun s i wr => ∃ k : Nat, k ≤ nb ∧ i = .int .i64 k ∧ s = .int .i64 (gsum (fun _ => true) (fd us) k) ∧ Below w3.heap.size w3 wr) (fun _ i _ => nb - (intOf i).toNat)
      case atStart => exact ⟨0, by omega, rfl, rfl, Below.refl _ _⟩
      case round =>
        obtain ⟨k, hk, rfl, rfl, hbel⟩ := hrel
        have k5 := Lib.hid (k3.out.keep hbel)
        have HR5 := Lib.hid (HR3.out.below hbel)
        have T5 := Lib.hid (T3.out.below hbel)
        have U5 := Lib.hid (U3.out.below hbel)
        obtain ⟨p0, p1, _, _⟩ := k5.out.two
        by_cases hlt : k < nb
        · obtain ⟨b', off', u, hA3, hb', hku, g0, _⟩ := U5.out.at_ hlt
          subst hA3
          have h4 := gall_bd (k := k) HFB.out (by omega)
          have h5 := HFB.out k
          have HN := Lib.hid (gsum_yes (p := fun _ => true) (f := fd us) (k := k) rfl)
          rw [fd_at hku] at h5 HN
          have v1 : IntKind.i64.wrap (gsum (fun _ => true) (fd us) k + u.1) = gsum (fun _ => true) (fd us) k + u.1 := IntWalk.i64_in _ (by omega)
          have q0 : (0 : Int) ≤ (k : Int) := by omega
          have q1 : (k : Int) < (nb : Int) := by omega
          clear hku h4 h5
          go_wp2_with fail
          refine (sam_any nb A1 ls.length c1 ls A2 ts.length c2 ts k bu _ h1 HR5.out h2 T5.out).mono ?_
          rintro e w6 ⟨rfl, hb6⟩
          have k6 := Lib.hid (k5.out.keep hb6)
          have b6 : Below w3.heap.size w3 w6 := hbel.trans (hb6.mono hbel.size)
          clear p0 p1
          obtain ⟨p0, p1, _, _⟩ := k6.out.two
          cases hsm : samF nb ls ts k bu
          · go_wp2_with fail
            go_roundw
            case rel => exact ⟨k + 1, by omega, by go_num, by rw [HN.out], b6⟩
            case measure => simp [intOf]; omega
          · have HE := Lib.hid ((HAll.out k hlt).trans ((HSam.out k hsm).trans HXE.out.symm))
            go_wp2_with fail
            refine (islandFeed_any nb A1 ls.length c1 ls A2 ts.length c2 ts _ nb c3 us k _ h1 (HR5.out.below hb6) h2 (T5.out.below hb6) h3 (U5.out.below hb6)).mono ?_
            rintro e w7 ⟨rfl, hb7⟩
            rw [HE.out]
            have b7 := b6.trans (hb7.mono b6.size)
            go_wp2_with fail
            go_roundw
            case rel => exact ⟨k + 1, by omega, by go_num, by rw [HN.out], b7⟩
            case measure => simp [intOf]; omega
        · obtain rfl : nb = k := by omega
          have b5 := b3.trans (hbel.mono b3.size)
          go_wp2_with fail
          refine (iof_any nb A1 ls.length c1 ls A2 ts.length c2 ts _ h1 HR5.out h2 T5.out).mono ?_
          rintro e w6 ⟨v6, rfl, hO6, hb6⟩
          have b6 := b5.trans (hb6.mono b5.size)
          have k6 := Lib.hid (k5.out.keep hb6)
          have HR6 := Lib.hid (HR5.out.below hb6)
          have T6 := Lib.hid (T5.out.below hb6)
          have U6 := Lib.hid (U5.out.below hb6)
          have L6 := Lib.hid hO6
          obtain ⟨A6, c6, rfl⟩ := hO6.form
          clear p0 p1 hO6 k5 HR5 T5 U5
          generalize iofF nb ls ts = xss at *
          generalize heads (edgesOn ls ts) nb = hs at *
          go_wp2_with fail
          go_loopw [8, 11] (fun s i wr => ∃ j : Nat, j ≤ xss.length ∧ i = .int .i64 j ∧ s = .int .i64 (gsum (fun _ => true) (fd us) nb - lsum (isum (edgesOn ls ts) nb (fd us)) hs j) ∧ Below w6.heap.size w6 wr) (fun _ i _ => xss.length - (intOf i).toNat)
          case atStart => exact ⟨0, by omega, rfl, by simp [lsum], Below.refl _ _⟩
          case round =>
            obtain ⟨j, hj, rfl, rfl, hby⟩ := hrel
            have k7 := Lib.hid (k6.out.keep hby)
            have HR7 := Lib.hid (HR6.out.below hby)
            have T7 := Lib.hid (T6.out.below hby)
            have U7 := Lib.hid (U6.out.below hby)
            have L7 := Lib.hid (OwnSS.keep L6.out hby)
            obtain ⟨p0, p1, _, _⟩ := k7.out.two
            by_cases hjl : j < xss.length
            · obtain ⟨g, cap, u, zs, hA, _, hg2, hz, g0, hu, _⟩ := L7.out.at_ hjl
              injection hA with hA hA1 hA2
              subst hA
              obtain ⟨m, hm, hz0, hzp, hz8, hmn⟩ := HAt.out j zs hz
              obtain ⟨Az, cz, rfl, hzz⟩ := hu.sl
              obtain ⟨bz, oz, z, rfl, hbz, hkz, e0⟩ := hzz.at_ hzp
              rw [hz0] at hkz
              injection hkz with hkz
              subst hkz
              rw [Nat.add_zero] at e0
              have HL1 := Lib.hid (lsum_succ (f := isum (edgesOn ls ts) nb (fd us)) hm)
              have hm1 := isum_bd (es := edgesOn ls ts) (b := m) hnb HFB.out
              have hm2 := HBD.out j (by omega)
              have hm3 := HAll.out m hmn
              have CA := fun (W : World) (hW : Below wr.heap.size wr W) => islandFeed_any nb A1 ls.length c1 ls A2 ts.length c2 ts _ nb c3 us m W h1 (HR7.out.below hW) h2 (T7.out.below hW) h3 (U7.out.below hW)
              rw [hm3] at CA
              have HA := Lib.hid CA
              have hX := k7.out.lt
              generalize isum (edgesOn ls ts) nb (fd us) m = y at *
              generalize hS : lsum (isum (edgesOn ls ts) nb (fd us)) hs j = S at *
              generalize hG : gsum (fun _ => true) (fd us) nb = G at *
              have v1 : IntKind.i64.wrap (G - S - y) = G - S - y := IntWalk.i64_in _ (by omega)
              have hzl : ((zs.length : Int) == 0) = false := by rw [beq_eq_false_iff_ne]; omega
              have i0 : (0 : Int) ≤ (j : Int) := by omega
              have i1 : (j : Int) < (xss.length : Int) := by omega
              have i2 : (0 : Int) < (zs.length : Int) := by omega
              clear CA hm3 hz hu hzz hz0 hS hG hm1 hm2 hA1 hA2
              go_upto_region 22 with fail
              go_region_held3 (fun w' => Below wr.heap.size wr w' ∧ w'.cell? ⟨w1.heap.size, 0, none⟩ = some (.int .i64 (nb : Int)) ∧ w'.cell? ⟨w1.heap.size, 1, none⟩ = some (.slice A1 ls.length c1) ∧ w'.cell? ⟨g, j, none⟩ = some (.slice (some ⟨bz, oz, none⟩) zs.length cz) ∧ w'.cell? ⟨bz, oz, none⟩ = some (.int .i64 (m : Int)))
                (first | exact holdH p0 p1 hX g0 hg2 e0 hbz hB8 | exact holdH p0 p1 hX g0 hg2 e0 hbz (Below.drew (Below.refl _ _)) | exact holdH p0 p1 hX g0 hg2 e0 hbz (Below.refl _ _))
                ((go_at_call 14; (with_reducible refine (HA.out _ (And.left (by assumption))).mono ?_); rintro e w8 ⟨rfl, hb8⟩; have hB8 := runV (by assumption) hb8))
              rename_i hF
              have b8 := hby.trans (hF.1.mono hby.size)
              clear hF HA p0 p1 g0 e0
              go_wp2_with fail
              go_roundw
              case rel => exact ⟨j + 1, by omega, by go_num, by rw [HL1.out]; congr 1; omega, b8⟩
              case measure => simp [intOf]; omega
            · obtain rfl : j = xss.length := by omega
              have HZ := Lib.hid (show gsum (fun _ => true) (fd us) nb - lsum (isum (edgesOn ls ts) nb (fd us)) hs xss.length = 0 by rw [hhl, HTot.out]; omega)
              rw [HZ.out]
              go_wp2_with fail
              go_ret
              exact ⟨rfl, b6.trans (hby.mono b6.size)⟩
  · have hl2 : (1048576 : Int) < (n : Int) := by omega
    go_enter Tryd.func4, Tryd.ntmps4
    go_wp2
    go_ret
    exact ⟨rfl, Below.refl _ _⟩
end Go.Proofs.YtobbmnbkjeoheaaDoor
