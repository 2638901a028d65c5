/- FnServedLoad: the walk. -/
import Derived.Test.YtobbmnbkjeoheaaDoorY4
import Derived.Deep.RegionHeld3
namespace Go.Proofs.YtobbmnbkjeoheaaDoor
open Go.ChangeShapes Go.WideShapes Go.ChangeAt Go.RowKit

set_option maxRecDepth 100000 in
set_option maxHeartbeats 2000000 in
theorem servedLoad_walk (w : World) (A : Option Addr) (n c : Nat) (code : List Int) (hr : RowB w A n code) (hnc : n ≤ c) (hc : c ≤ 9223372036854775807) :
    Calls Tryd.prog 7 #[.slice A n c] w fun e w' => e = .returned (.bool true) ∧ Below w.heap.size w w' := by
  by_cases hlen : n ≤ 1048576
  · go_enter Tryd.func7, Tryd.ntmps7
    go_wp2_with fail
    refine (drawServedLoad_any A n c code _ hr hnc hc).mono ?_
    rintro e w1 ⟨bs, A1, c1, ls, v, ts, vu, us, rfl, hrow, hls, hb0, hb9, hO, hts, hU, hus, a1⟩
    have hbx := below_bx w1 (.cells #[.int .i64 bs, .slice A1 ls.length c1] 25)
    have HR1 := Lib.hid (hrow.below hbx)
    have k1 := Lib.hid (IsBlk.new w1 25 #[.int .i64 bs, .slice A1 ls.length c1])
    have b1 : Below w.heap.size w (w1.alloc (.cells #[.int .i64 bs, .slice A1 ls.length c1] 25)) := a1.alloc a1.size _
    obtain ⟨A2, c2, rfl, _, hrt⟩ := hO.row
    obtain ⟨A3, c3, rfl, hru⟩ := hU.row
    have T1 := Lib.hid (hrt.below hbx)
    have U1 := Lib.hid (hru.below hbx)
    clear hrow hr hO hrt hU hru
    have h1 : ls.length ≤ 1048576 := by omega
    have h2 : ts.length ≤ 1048576 := by omega
    have h3 : us.length ≤ 1048576 := by omega
    go_wp2_with fail
    refine (served_any bs A1 ls.length c1 ls A2 ts.length c2 ts A3 us.length c3 us _ h1 HR1.out h2 T1.out h3 U1.out).mono ?_
    rintro e w2 ⟨rfl, hb2⟩
    have b2 := b1.trans (hb2.mono b1.size)
    have HR2 := Lib.hid (HR1.out.below hb2)
    have k2 := Lib.hid (k1.out.keep hb2)
    have T2 := Lib.hid (T1.out.below hb2)
    have P2 := Lib.hid (U1.out.below hb2)
    clear HR1 k1 T1 U1
    obtain ⟨p0, p1, _, _⟩ := k2.out.two
    go_wp2_with fail
    refine (specServed_any bs A1 ls.length c1 ls A2 ts.length c2 ts A3 us.length c3 us _ h1 HR2.out h2 T2.out h3 P2.out).mono ?_
    rintro e w3 ⟨rfl, hb3⟩
    have b3 := b2.trans (hb3.mono b2.size)
    have HR3 := Lib.hid (HR2.out.below hb3)
    have k3 := Lib.hid (k2.out.keep hb3)
    have T3 := Lib.hid (T2.out.below hb3)
    have U3 := Lib.hid (P2.out.below hb3)
    clear HR2 k2 T2 P2 p0 p1
    rcases serF_some (bs := bs) (ls := ls) (ts := ts) (us := us) with hx | ⟨ho, hxe, hx⟩
    · rw [hx]
      go_wp2_with fail
      refine (alive_any _).mono ?_
      rintro e w5 ⟨rfl, hb5⟩
      go_wp2
      go_ret
      exact ⟨rfl, b3.trans (hb5.mono b3.size)⟩
    · have hbs := okU_bs ho
      have hs := okU_st ho
      obtain ⟨nb, rfl⟩ := Int.eq_ofNat_of_zero_le (show 0 ≤ bs by omega)
      have hnb : nb ≤ 8 := by omega
      have hul : us.length = nb := by have := busesOk_len (okU_bu ho); omega
      have HFB := Lib.hid (ld_bd (okU_bu ho))
      have HAll := Lib.hid (fun (k : Nat) (hk : k < nb) => (show feedF nb ls ts us k = isum (edgesOn ls ts) nb (fd us) k ∧ loadF nb ls ts us k = isum (edgesOn ls ts) nb (ld us) k from ⟨by rw [feedF_ok ho (by omega) (by omega)]; rfl, by rw [loadF_ok ho (by omega) (by omega)]; rfl⟩))
      obtain ⟨hhl, hhat⟩ := iofF_head hs
      rw [Int.toNat_natCast] at hhl hhat hxe
      have HAt := Lib.hid hhat
      have HTot := Lib.hid ((ser_heads (edgesOn ls ts) nb us).trans hxe.symm)
      have HLe := Lib.hid (show serF nb ls ts us ≤ gsum (fun _ => true) (ld us) nb by rw [hxe]; exact gsum_le (fun b _ => (HFB.out b).1) (fun _ _ _ => rfl))
      have hh8 := heads_len (edgesOn ls ts) nb
      have HBD := Lib.hid (fun (k : Nat) (hk : k ≤ (heads (edgesOn ls ts) nb).length) => lsum_serH_bd (es := edgesOn ls ts) (nb := nb) (k := k) HFB.out hnb hk)
      clear hs hhat ho hxe
      rw [hul] at U3 h3 ⊢
      generalize hxx : serF nb ls ts us = x at *
      clear hxx
      have hx0 : ¬ x < 0 := by omega
      obtain ⟨p0, p1, _, _⟩ := k3.out.two
      go_wp2_with fail
      refine (iof_any nb A1 ls.length c1 ls A2 ts.length c2 ts _ h1 HR3.out h2 T3.out).mono ?_
      rintro e w6 ⟨v6, rfl, hO6, hb6⟩
      have b6 := b3.trans (hb6.mono b3.size)
      have k6 := Lib.hid (k3.out.keep hb6)
      have HR6 := Lib.hid (HR3.out.below hb6)
      have T6 := Lib.hid (T3.out.below hb6)
      have U6 := Lib.hid (U3.out.below hb6)
      have L6 := Lib.hid hO6
      obtain ⟨A6, c6, rfl⟩ := hO6.form
      clear p0 p1 hO6 k3 HR3 T3 U3
      generalize iofF nb ls ts = xss at *
      generalize heads (edgesOn ls ts) nb = hs at *
      go_wp2_with fail
      go_loopw [7, 9] (fun s i wr => ∃ j : Nat, j ≤ xss.length ∧ i = .int .i64 j ∧ s = .int .i64 (lsum (serH (edgesOn ls ts) nb us) hs j) ∧ Below w6.heap.size w6 wr) (fun _ i _ => xss.length - (intOf i).toNat)
      case atStart => exact ⟨0, by omega, rfl, by simp [lsum], Below.refl _ _⟩
      case round =>
        obtain ⟨j, hj, rfl, rfl, hby⟩ := hrel
        have k7 := Lib.hid (k6.out.keep hby)
        have HR7 := Lib.hid (HR6.out.below hby)
        have T7 := Lib.hid (T6.out.below hby)
        have U7 := Lib.hid (U6.out.below hby)
        have L7 := Lib.hid (OwnSS.keep L6.out hby)
        obtain ⟨p0, p1, _, _⟩ := k7.out.two
        by_cases hjl : j < xss.length
        · obtain ⟨g, cap, u, zs, hA, _, hg2, hz, g0, hu, _⟩ := L7.out.at_ hjl
          injection hA with hA hA1 hA2
          subst hA
          obtain ⟨m, hm, hz0, hzp, hz8, hmn⟩ := HAt.out j zs hz
          obtain ⟨Az, cz, rfl, hzz⟩ := hu.sl
          obtain ⟨bz, oz, z, rfl, hbz, hkz, e0⟩ := hzz.at_ hzp
          rw [hz0] at hkz
          injection hkz with hkz
          subst hkz
          rw [Nat.add_zero] at e0
          have HL1 := Lib.hid (lsum_succ (f := serH (edgesOn ls ts) nb us) hm)
          have hm1 := isum_bd (es := edgesOn ls ts) (b := m) hnb HFB.out
          have hm2 := HBD.out j (by omega)
          obtain ⟨hm3, hm4⟩ := HAll.out m hmn
          have HY := Lib.hid (fun h => serH_yes (es := edgesOn ls ts) (nb := nb) (us := us) (h := m) h)
          have HN := Lib.hid (fun h => serH_no (es := edgesOn ls ts) (nb := nb) (us := us) (h := m) h)
          have CA := fun (W : World) (hW : Below wr.heap.size wr W) => islandFeed_any nb A1 ls.length c1 ls A2 ts.length c2 ts A3 nb c3 us m W h1 (HR7.out.below hW) h2 (T7.out.below hW) h3 (U7.out.below hW)
          have CB := fun (W : World) (hW : Below wr.heap.size wr W) => islandLoad_any nb A1 ls.length c1 ls A2 ts.length c2 ts A3 nb c3 us m W h1 (HR7.out.below hW) h2 (T7.out.below hW) h3 (U7.out.below hW)
          rw [hm3] at CA
          rw [hm4] at CB
          have hX := k7.out.lt
          generalize isum (edgesOn ls ts) nb (fd us) m = y at *
          generalize isum (edgesOn ls ts) nb (ld us) m = y' at *
          generalize hS : lsum (serH (edgesOn ls ts) nb us) hs j = S at *
          have HA := Lib.hid CA
          have HB := Lib.hid CB
          have v1 : IntKind.i64.wrap (S + y') = S + y' := IntWalk.i64_in _ (by omega)
          have i0 : (0 : Int) ≤ (j : Int) := by omega
          have i1 : (j : Int) < (xss.length : Int) := by omega
          have i2 : (0 : Int) < (zs.length : Int) := by omega
          clear CA CB hm3 hm4 hz hu hzz hz0 hS hm1 hm2 hA1 hA2
          go_upto_region 14 with fail
          go_region_held3 (fun w' => Below wr.heap.size wr w' ∧ w'.cell? ⟨w1.heap.size, 0, none⟩ = some (.int .i64 (nb : Int)) ∧ w'.cell? ⟨w1.heap.size, 1, none⟩ = some (.slice A1 ls.length c1) ∧ w'.cell? ⟨g, j, none⟩ = some (.slice (some ⟨bz, oz, none⟩) zs.length cz) ∧ w'.cell? ⟨bz, oz, none⟩ = some (.int .i64 (m : Int)))
            (first | exact holdH p0 p1 hX g0 hg2 e0 hbz hB8 | exact holdH p0 p1 hX g0 hg2 e0 hbz hB9 | exact holdH p0 p1 hX g0 hg2 e0 hbz (Below.drew (Below.refl _ _)) | exact holdH p0 p1 hX g0 hg2 e0 hbz (Below.refl _ _))
            (first
              | (go_at_call 14; (with_reducible refine (HA.out _ (And.left (by assumption))).mono ?_); rintro e w8 ⟨rfl, hb8⟩; have hB8 := runV (by assumption) hb8)
              | (go_at_call 19; (with_reducible refine (HB.out _ (And.left (by assumption))).mono ?_); rintro e w9 ⟨rfl, hb9'⟩; have hB9 := runV (by assumption) hb9'))
          rename_i hF
          have HF := Lib.hid hF
          have b8 := hby.trans (hF.1.mono hby.size)
          clear hF
          by_cases hyy : y' ≤ y
          · have HL2 := Lib.hid (show lsum (serH (edgesOn ls ts) nb us) hs (j + 1) = S + y' by rw [HL1.out, HY.out hyy])
            generalize hwz : w9 = wz at *
            have k8 := Lib.hid (k7.out.keep HF.out.1)
            have CB := fun (W : World) (hW : Below wz.heap.size wz W) => HB.out W (HF.out.1.trans (hW.mono HF.out.1.size))
            have HC := Lib.hid CB
            obtain ⟨_, pp0, pp1, gg0, ee0⟩ := HF.out
            have hX8 := k8.out.lt
            have hg8 := Nat.lt_of_lt_of_le hg2 HF.out.1.size
            have hbz8 := Nat.lt_of_lt_of_le hbz HF.out.1.size
            clear CB HA HB HF p0 p1 g0 e0
            go_upto_region 15 with fail
            go_region_held3 (fun w' => Below wz.heap.size wz w' ∧ w'.cell? ⟨w1.heap.size, 0, none⟩ = some (.int .i64 (nb : Int)) ∧ w'.cell? ⟨w1.heap.size, 1, none⟩ = some (.slice A1 ls.length c1) ∧ w'.cell? ⟨g, j, none⟩ = some (.slice (some ⟨bz, oz, none⟩) zs.length cz) ∧ w'.cell? ⟨bz, oz, none⟩ = some (.int .i64 (m : Int)))
              (first | exact holdH pp0 pp1 hX8 gg0 hg8 ee0 hbz8 hB10 | exact holdH pp0 pp1 hX8 gg0 hg8 ee0 hbz8 (Below.drew (Below.refl _ _)) | exact holdH pp0 pp1 hX8 gg0 hg8 ee0 hbz8 (Below.refl _ _))
              ((go_at_call 19; (with_reducible refine (HC.out _ (And.left (by assumption))).mono ?_); rintro e w10 ⟨rfl, hb10⟩; have hB10 := runV (by assumption) hb10))
            rename_i hF
            have b10 := b8.trans (hF.1.mono b8.size)
            clear hF HC pp0 pp1 gg0 ee0
            go_wp2_with fail
            go_roundw
            case rel => exact ⟨j + 1, by omega, by go_num, by rw [HL2.out], b10⟩
            case measure => simp [intOf]; omega
          · have HL2 := Lib.hid (show lsum (serH (edgesOn ls ts) nb us) hs (j + 1) = S by rw [HL1.out, HN.out (by omega)]; omega)
            clear HA HB HF p0 p1 g0 e0
            go_wp2_with fail
            go_roundw
            case rel => exact ⟨j + 1, by omega, by go_num, by rw [HL2.out], b8⟩
            case measure => simp [intOf]; omega
        · obtain rfl : j = xss.length := by omega
          rw [hhl, HTot.out]
          have hle := HLe.out
          go_wp2_with fail
          refine (loads_any A3 nb c3 us _ hnb HFB.out U7.out).mono ?_
          rintro e w' ⟨rfl, rfl⟩
          go_wp2
          go_ret
          exact ⟨rfl, b6.trans (hby.mono b6.size)⟩
  · have hl2 : (1048576 : Int) < (n : Int) := by omega
    go_enter Tryd.func7, Tryd.ntmps7
    go_wp2
    go_ret
    exact ⟨rfl, Below.refl _ _⟩
end Go.Proofs.YtobbmnbkjeoheaaDoor
