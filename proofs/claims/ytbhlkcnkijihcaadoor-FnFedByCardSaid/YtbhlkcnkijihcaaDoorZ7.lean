/- FnFedBy: the walk. -/
import Derived.Test.YtbhlkcnkijihcaaDoorY9
import Derived.Test.YtbhlkcnkijihcaaDoorZ3
import Derived.Test.YtbhlkcnkijihcaaDoorBZA
import Derived.Test.YtbhlkcnkijihcaaDoorBHA
import Derived.Test.YtbhlkcnkijihcaaDoorBCD
namespace Go.Proofs.YtbhlkcnkijihcaaDoor
open Go.ChangeShapes Go.WideShapes Go.ChangeAt Go.RowKit

set_option maxRecDepth 100000 in
set_option maxHeartbeats 4000000 in
theorem fedByL_walk (w : World) (A : Option Addr) (n c : Nat) (code : List Int) (hr : RowB w A n code) (hnc : n ≤ c) (hc : c ≤ 9223372036854775807) :
    Calls Tryd.prog 3 #[.slice A n c] w fun e w' => e = .returned (.bool true) ∧ Below w.heap.size w w' := by
  by_cases hlen : n ≤ 1048576
  · go_enter Tryd.func3, Tryd.ntmps3
    go_wp2_with fail
    refine (drawFedBy_any A n c code _ hr hnc hc).mono ?_
    rintro e w1 ⟨bs, A1, c1, ls, A2, c2, ts, A3, c3, us, bus, rfl, hrow, hls, hb0, hb9, hrt, hts, hru, hus, a1⟩
    have hbx := below_bx w1 (.cells #[.int .i64 bs, .slice A1 ls.length c1] 25)
    have HR1 := Lib.hid (hrow.below hbx)
    have k1 := Lib.hid (IsBlk.new w1 25 #[.int .i64 bs, .slice A1 ls.length c1])
    have b1 : Below w.heap.size w (w1.alloc (.cells #[.int .i64 bs, .slice A1 ls.length c1] 25)) := a1.alloc a1.size _
    have T1 := Lib.hid (hrt.below hbx)
    have U1 := Lib.hid (hru.below hbx)
    clear hrow hr hrt hru
    have h1 : ls.length ≤ 1048576 := by omega
    have h2 : ts.length ≤ 1048576 := by omega
    have h3 : us.length ≤ 1048576 := by omega
    go_wp2_with fail
    refine (fedBy_any bs A1 ls.length c1 ls A2 ts.length c2 ts A3 us.length c3 us bus _ h1 HR1.out h2 T1.out h3 U1.out).mono ?_
    rintro e w2 ⟨rfl, hb2⟩
    have b2 := b1.trans (hb2.mono b1.size)
    have HR2 := Lib.hid (HR1.out.below hb2)
    have k2 := Lib.hid (k1.out.keep hb2)
    have T2 := Lib.hid (T1.out.below hb2)
    have U2 := Lib.hid (U1.out.below hb2)
    clear HR1 k1 T1 U1
    obtain ⟨p0, p1, _, _⟩ := k2.out.two
    go_wp2_with fail
    refine (specFedBy_any bs A1 ls.length c1 ls A2 ts.length c2 ts A3 us.length c3 us bus _ h1 HR2.out h2 T2.out h3 U2.out).mono ?_
    rintro e w3 ⟨rfl, hb3⟩
    have b3 := b2.trans (hb3.mono b2.size)
    have HR3 := Lib.hid (HR2.out.below hb3)
    have k3 := Lib.hid (k2.out.keep hb3)
    have T3 := Lib.hid (T2.out.below hb3)
    have U3 := Lib.hid (U2.out.below hb3)
    clear HR2 k2 T2 U2 p0 p1
    obtain ⟨p0, p1, _, _⟩ := k3.out.two
    by_cases hx : fbyF bs ls ts us bus < 0
    · obtain ⟨he, hor⟩ := fby_un hx
      rw [he]
      cases hrad : radF bs ls ts us
      · go_wp2_with fail
        refine (radial_any bs A1 ls.length c1 ls A2 ts.length c2 ts A3 us.length c3 us _ h1 HR3.out h2 T3.out h3 U3.out).mono ?_
        rintro e w4 ⟨rfl, hb4⟩
        rw [hrad]
        have b4 := b3.trans (hb4.mono b3.size)
        clear p0 p1
        go_wp2_with fail
        refine (alive_any _).mono ?_
        rintro e w5 ⟨rfl, hb5⟩
        go_wp2
        go_ret
        exact ⟨rfl, b4.trans (hb5.mono b4.size)⟩
      · have hm : decide (bus ∈ aliF bs ls ts us) = false := by
          rcases hor with h | h
          · rw [hrad] at h; cases h
          · exact h
        have hla : (aliF bs ls ts us).length ≤ 1048576 := Nat.le_trans (aliF_len _ _ _ _) (by decide)
        have HM := Lib.hid hm
        clear hor hm
        go_wp2_with fail
        refine (radial_any bs A1 ls.length c1 ls A2 ts.length c2 ts A3 us.length c3 us _ h1 HR3.out h2 T3.out h3 U3.out).mono ?_
        rintro e w4 ⟨rfl, hb4⟩
        rw [hrad]
        have b4 := b3.trans (hb4.mono b3.size)
        have k4 := Lib.hid (k3.out.keep hb4)
        clear p0 p1
        obtain ⟨p0, p1, _, _⟩ := k4.out.two
        go_wp2_with fail
        refine (alive5_any bs A1 ls.length c1 ls A2 ts.length c2 ts A3 us.length c3 us _ h1 (HR3.out.below hb4) h2 (T3.out.below hb4) h3 (U3.out.below hb4)).mono ?_
        rintro e w5 ⟨v5, rfl, hO5, hb5⟩
        have b5 := b4.trans (hb5.mono b4.size)
        have B5 := Lib.hid hO5
        obtain ⟨A5, c5, rfl, _⟩ := hO5.sl
        clear hO5 p0 p1
        go_wp2_with fail
        refine (hasInt_v _ (aliF bs ls ts us) bus HM.out _ hla B5.out.row).mono ?_
        rintro e w6 ⟨rfl, hb6⟩
        have b6 := b5.trans (hb6.mono b5.size)
        go_wp2_with fail
        refine (alive_any _).mono ?_
        rintro e w7 ⟨rfl, hb7⟩
        go_wp2
        go_ret
        exact ⟨rfl, b6.trans (hb7.mono b6.size)⟩
    · obtain ⟨f, c0, rfl, hc0, he, hrad, hfl, hul, hfd, hcc⟩ := fby_feed hx
      rw [he]
      have ho := (radF_iff.1 hrad).2.2
      have hs := okU_st (radF_iff.1 hrad).1
      have hbs := okU_bs (radF_iff.1 hrad).1
      have HF := Lib.hid (fby_of hrad (show (f : Int) < bs by omega) hfd (Conn.refl f))
      have HS := Lib.hid (sam_of hs (show (f : Int) < bs by omega) hc0 hcc)
      have HK := Lib.hid (fun (k : Nat) (hk : 0 < fd us k) (hne : k ≠ f) => sam_feed (bs := bs) ho hfd hk hcc hne)
      have HFD := Lib.hid hfd
      clear hx he hrad ho hs hfd hcc hul
      go_wp2_with fail
      go_loopw [8] (fun i wr => ∃ k : Nat, k ≤ us.length ∧ i = .int .i64 k ∧ Below w3.heap.size w3 wr) (fun i _ => us.length - (intOf i).toNat)
      case atStart => exact ⟨0, by omega, rfl, Below.refl _ _⟩
      case round =>
        obtain ⟨k, hk, rfl, hbel⟩ := hrel
        have k7 := Lib.hid (k3.out.keep hbel)
        have HR7 := Lib.hid (HR3.out.below hbel)
        have T7 := Lib.hid (T3.out.below hbel)
        have U7 := Lib.hid (U3.out.below hbel)
        clear p0 p1
        obtain ⟨p0, p1, _, _⟩ := k7.out.two
        by_cases hlt : k < us.length
        · by_cases hkf : k = f
          · subst hkf
            go_wp2_with fail
            go_roundw
            case rel => exact ⟨k + 1, by omega, by go_num, hbel⟩
            case measure => simp [intOf]; omega
          · have hkf2 : ¬ (k : Int) = (f : Int) := by omega
            obtain ⟨b', off', u, hA3, hb', hku, g0, _⟩ := U7.out.at_ hlt
            subst hA3
            have q0 : (0 : Int) ≤ (k : Int) := by omega
            have q1 : (k : Int) < (us.length : Int) := by omega
            by_cases hu : 0 < u.1
            · have HK1 := Lib.hid (HK.out k (by rw [fd_at hku]; exact hu) hkf)
              clear hku
              go_wp2_with fail
              refine (sam_any bs A1 ls.length c1 ls A2 ts.length c2 ts k c0 _ h1 HR7.out h2 T7.out).mono ?_
              rintro e w8 ⟨rfl, hb8⟩
              rw [HK1.out]
              have b8 := hbel.trans (hb8.mono hbel.size)
              clear g0 p0 p1
              go_wp2_with fail
              go_roundw
              case rel => exact ⟨k + 1, by omega, by go_num, b8⟩
              case measure => simp [intOf]; omega
            · clear hku
              go_wp2_with fail
              go_roundw
              case rel => exact ⟨k + 1, by omega, by go_num, hbel⟩
              case measure => simp [intOf]; omega
        · have b7 := b3.trans (hbel.mono b3.size)
          obtain ⟨b', off', u, hA3, hb', hku, g0, _⟩ := U7.out.at_ hfl
          subst hA3
          have hu : 0 < u.1 := by rw [← fd_at hku]; exact HFD.out
          have q0 : (0 : Int) ≤ (f : Int) := by omega
          have q1 : (f : Int) < (us.length : Int) := by omega
          clear hku
          go_wp2_with fail
          refine (fedBy_any bs A1 ls.length c1 ls A2 ts.length c2 ts _ us.length c3 us f _ h1 HR7.out h2 T7.out h3 U7.out).mono ?_
          rintro e w8 ⟨rfl, hb8⟩
          rw [HF.out]
          have b8 := b7.trans (hb8.mono b7.size)
          have k8 := Lib.hid (k7.out.keep hb8)
          have g8 := (hb8.cell (p := ⟨b', off' + f * 2, none⟩) hb').trans g0
          clear p0 p1 g0
          obtain ⟨p0, p1, _, _⟩ := k8.out.two
          have hb8' := Nat.lt_of_lt_of_le hb' hb8.size
          go_wp2_with fail
          refine (sam_any bs A1 ls.length c1 ls A2 ts.length c2 ts f c0 _ h1 (HR7.out.below hb8) h2 (T7.out.below hb8)).mono ?_
          rintro e w9 ⟨rfl, hb9'⟩
          rw [HS.out]
          have b9 := b8.trans (hb9'.mono b8.size)
          have g9 := (hb9'.cell (p := ⟨b', off' + f * 2, none⟩) hb8').trans g8
          clear p0 p1 g8
          go_wp2
          go_ret
          exact ⟨rfl, b9⟩
  · have hl2 : (1048576 : Int) < (n : Int) := by omega
    go_enter Tryd.func3, Tryd.ntmps3
    go_wp2
    go_ret
    exact ⟨rfl, Below.refl _ _⟩
end Go.Proofs.YtbhlkcnkijihcaaDoor
