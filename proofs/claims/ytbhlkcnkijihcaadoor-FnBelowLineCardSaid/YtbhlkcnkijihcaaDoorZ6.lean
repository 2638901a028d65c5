/- FnBelowLine: the walk. -/
import Derived.Test.YtbhlkcnkijihcaaDoorY9
import Derived.Test.YtbhlkcnkijihcaaDoorZ3
import Derived.Test.YtbhlkcnkijihcaaDoorBZA
import Derived.Test.YtbhlkcnkijihcaaDoorBHA
import Derived.Test.YtbhlkcnkijihcaaDoorQ3
namespace Go.Proofs.YtbhlkcnkijihcaaDoor
open Go.ChangeShapes Go.WideShapes Go.ChangeAt Go.RowKit

set_option maxRecDepth 100000 in
set_option maxHeartbeats 4000000 in
theorem belowL_walk (w : World) (A : Option Addr) (n c : Nat) (code : List Int) (hr : RowB w A n code) (hnc : n ≤ c) (hc : c ≤ 9223372036854775807) :
    Calls Tryd.prog 6 #[.slice A n c] w fun e w' => e = .returned (.bool true) ∧ Below w.heap.size w w' := by
  by_cases hlen : n ≤ 1048576
  · go_enter Tryd.func6, Tryd.ntmps6
    go_wp2_with fail
    refine (drawBelowLine_any A n c code _ hr hnc hc).mono ?_
    rintro e w1 ⟨bs, A1, c1, ls, A2, c2, ts, A3, c3, us, line, rfl, hrow, hls, hb0, hb9, hrt, hts, hru, hus, a1⟩
    have hbx := below_bx w1 (.cells #[.int .i64 bs, .slice A1 ls.length c1] 25)
    have HR1 := Lib.hid (hrow.below hbx)
    have k1 := Lib.hid (IsBlk.new w1 25 #[.int .i64 bs, .slice A1 ls.length c1])
    have b1 : Below w.heap.size w (w1.alloc (.cells #[.int .i64 bs, .slice A1 ls.length c1] 25)) := a1.alloc a1.size _
    have T1 := Lib.hid (hrt.below hbx)
    have U1 := Lib.hid (hru.below hbx)
    clear hrow hr hrt hru
    have h1 : ls.length ≤ 1048576 := by omega
    have h2 : ts.length ≤ 1048576 := by omega
    have h3 : us.length ≤ 1048576 := by omega
    have hlb : (belF bs ls ts us line).length ≤ 1048576 := Nat.le_trans (belF_len _ _ _ _ _) (by decide)
    go_wp2_with fail
    refine (belowLine_any bs A1 ls.length c1 ls A2 ts.length c2 ts A3 us.length c3 us line _ h1 HR1.out h2 T1.out h3 U1.out).mono ?_
    rintro e w2 ⟨v2, rfl, hO2, hb2⟩
    have b2 := b1.trans (hb2.mono b1.size)
    have HR2 := Lib.hid (HR1.out.below hb2)
    have k2 := Lib.hid (k1.out.keep hb2)
    have T2 := Lib.hid (T1.out.below hb2)
    have U2 := Lib.hid (U1.out.below hb2)
    have L2 := Lib.hid hO2
    obtain ⟨A4, c4, rfl, _⟩ := hO2.sl
    clear HR1 k1 T1 U1 hO2
    obtain ⟨p0, p1, _, _⟩ := k2.out.two
    go_wp2_with fail
    refine (specBelowLine_any bs A1 ls.length c1 ls A2 ts.length c2 ts A3 us.length c3 us line _ h1 HR2.out h2 T2.out h3 U2.out).mono ?_
    rintro e w3 ⟨v3, rfl, hO3, hb3⟩
    have b3 := b2.trans (hb3.mono b2.size)
    have HR3 := Lib.hid (HR2.out.below hb3)
    have k3 := Lib.hid (k2.out.keep hb3)
    have T3 := Lib.hid (T2.out.below hb3)
    have U3 := Lib.hid (U2.out.below hb3)
    have L3 := Lib.hid (OwnI.keep L2.out hb3)
    have M3 := Lib.hid hO3
    clear HR2 k2 T2 U2 L2 hO3 p0 p1
    go_wp2_with fail
    refine (sameInts_own hlb L3.out M3.out).mono ?_
    rintro e w4 ⟨rfl, hb4⟩
    have b4 := b3.trans (hb4.mono b3.size)
    have HR4 := Lib.hid (HR3.out.below hb4)
    have k4 := Lib.hid (k3.out.keep hb4)
    have T4 := Lib.hid (T3.out.below hb4)
    have U4 := Lib.hid (U3.out.below hb4)
    have L4 := Lib.hid (OwnI.keep L3.out hb4)
    clear HR3 k3 T3 U3 L3 M3
    obtain ⟨p0, p1, _, _⟩ := k4.out.two
    go_wp2_with fail
    refine (specRadial_any bs A1 ls.length c1 ls A2 ts.length c2 ts A3 us.length c3 us _ h1 HR4.out h2 T4.out h3 U4.out).mono ?_
    rintro e w5 ⟨rfl, hb5⟩
    have b5 := b4.trans (hb5.mono b4.size)
    have HR5 := Lib.hid (HR4.out.below hb5)
    have k5 := Lib.hid (k4.out.keep hb5)
    have T5 := Lib.hid (T4.out.below hb5)
    have U5 := Lib.hid (U4.out.below hb5)
    have L5 := Lib.hid (OwnI.keep L4.out hb5)
    clear HR4 k4 T4 U4 L4 p0 p1 hb4
    obtain ⟨p0, p1, _, _⟩ := k5.out.two
    cases hx : radF bs ls ts us
    · have hz : (belF bs ls ts us line).length = 0 := by rw [belF_bad hx]; rfl
      rw [hz]
      go_wp2_with fail
      refine (alive_any _).mono ?_
      rintro e w6 ⟨rfl, hb6⟩
      go_wp2
      go_ret
      exact ⟨rfl, b5.trans (hb6.mono b5.size)⟩
    · by_cases hneg : line < 0
      · have hz : (belF bs ls ts us line).length = 0 := by rw [belF_out (.inl hneg)]; rfl
        rw [hz]
        go_wp2_with fail
        refine (alive_any _).mono ?_
        rintro e w6 ⟨rfl, hb6⟩
        go_wp2
        go_ret
        exact ⟨rfl, b5.trans (hb6.mono b5.size)⟩
      · by_cases hge : (ts.length : Int) ≤ line
        · have hz : (belF bs ls ts us line).length = 0 := by rw [belF_out (.inr hge)]; rfl
          rw [hz]
          go_wp2_with fail
          refine (alive_any _).mono ?_
          rintro e w6 ⟨rfl, hb6⟩
          go_wp2
          go_ret
          exact ⟨rfl, b5.trans (hb6.mono b5.size)⟩
        · obtain ⟨j, rfl⟩ := Int.eq_ofNat_of_zero_le (show 0 ≤ line by omega)
          have hlt : j < ts.length := by omega
          have ho := (radF_iff.1 hx).1
          have hs := okU_st ho
          have hbs := okU_bs ho
          obtain ⟨nb, rfl⟩ := Int.eq_ofNat_of_zero_le (show 0 ≤ bs by omega)
          have HX := Lib.hid (fun (k : Nat) (hk : k < nb) => bel_alive (j := j) hx (show k < ((nb : Int)).toNat from hk))
          have HAsc := Lib.hid (belF_asc (bs := nb) (ls := ls) (ts := ts) (us := us) (j : Int))
          clear hx ho
          go_wp2_with fail
          refine (offOn_any nb A1 ls.length c1 ls A2 ts.length c2 ts j _ h1 HR5.out h2 T5.out).mono ?_
          rintro e w6 ⟨va, vb, rfl, hOa, hOb, hb6⟩
          rw [swV_at hlt hs] at hOa hOb
          have b6 := b5.trans (hb6.mono b5.size)
          have HR6 := Lib.hid (HR5.out.below hb6)
          have k6 := Lib.hid (k5.out.keep hb6)
          have T6 := Lib.hid (T5.out.below hb6)
          have U6 := Lib.hid (U5.out.below hb6)
          have L6 := Lib.hid (OwnI.keep L5.out hb6)
          obtain ⟨Aa, ca, rfl, _, hTa⟩ := hOa.row
          obtain ⟨Ab, cb, rfl, _, hTb⟩ := hOb.row
          rw [List.length_set] at hTa hTb ⊢
          rw [List.length_set]
          have Q6 := Lib.hid hTa
          clear hTa hTb hOa hOb HR5 k5 T5 U5 L5 p0 p1 hs
          obtain ⟨p0, p1, _, _⟩ := k6.out.two
          have hla : (aliF nb ls ts us).length ≤ 1048576 := Nat.le_trans (aliF_len _ _ _ _) (by decide)
          have hlc : (aliF nb ls (ts.set j false) us).length ≤ 1048576 := Nat.le_trans (aliF_len _ _ _ _) (by decide)
          go_wp2_with fail
          refine (alive5_any nb A1 ls.length c1 ls A2 ts.length c2 ts A3 us.length c3 us _ h1 HR6.out h2 T6.out h3 U6.out).mono ?_
          rintro e w7 ⟨v7, rfl, hO7, hb7⟩
          have b7 := b6.trans (hb7.mono b6.size)
          have HR7 := Lib.hid (HR6.out.below hb7)
          have k7 := Lib.hid (k6.out.keep hb7)
          have Q7 := Lib.hid (Q6.out.below hb7)
          have U7 := Lib.hid (U6.out.below hb7)
          have L7 := Lib.hid (OwnI.keep L6.out hb7)
          have B7 := Lib.hid hO7
          obtain ⟨A7, c7, rfl, _⟩ := hO7.sl
          clear HR6 k6 Q6 T6 U6 L6 hO7 p0 p1
          obtain ⟨p0, p1, _, _⟩ := k7.out.two
          go_wp2_with fail
          refine (alive5_any nb A1 ls.length c1 ls Aa ts.length ca (ts.set j false) A3 us.length c3 us _ h1 HR7.out h2 Q7.out h3 U7.out).mono ?_
          rintro e w8 ⟨v8, rfl, hO8, hb8⟩
          have b8 := b7.trans (hb8.mono b7.size)
          have k8 := Lib.hid (k7.out.keep hb8)
          have L8 := Lib.hid (OwnI.keep L7.out hb8)
          have B8 := Lib.hid (OwnI.keep B7.out hb8)
          have C8 := Lib.hid hO8
          obtain ⟨A8, c8, rfl, _⟩ := hO8.sl
          clear HR7 k7 Q7 U7 L7 B7 hO8 p0 p1
          have hrr := hlb
          have hr7 := hla
          have hr8 := hlc
          generalize belF nb ls ts us (j : Int) = zs at *
          generalize aliF nb ls ts us = xs at *
          generalize aliF nb ls (ts.set j false) us = ys at *
          go_wp2_with fail
          go_loopw [12] (fun i wr => ∃ k : Nat, k ≤ nb ∧ i = .int .i64 k ∧ Below w8.heap.size w8 wr) (fun i _ => nb - (intOf i).toNat)
          case atStart => exact ⟨0, by omega, rfl, Below.refl _ _⟩
          case round =>
            obtain ⟨k, hk, rfl, hbel⟩ := hrel
            have k9 := Lib.hid (k8.out.keep hbel)
            have L9 := Lib.hid (OwnI.keep L8.out hbel)
            have B9 := Lib.hid (OwnI.keep B8.out hbel)
            have C9 := Lib.hid (OwnI.keep C8.out hbel)
            obtain ⟨p0, p1, _, _⟩ := k9.out.two
            by_cases hkl : k < nb
            · have hdec := HX.out k hkl
              obtain ⟨ta, hta⟩ : ∃ t, decide ((k : Int) ∈ xs) = t := ⟨_, rfl⟩
              obtain ⟨tb, htb⟩ : ∃ t, decide ((k : Int) ∈ ys) = t := ⟨_, rfl⟩
              rw [hta, htb] at hdec
              have HTa := Lib.hid hta
              have HTb := Lib.hid htb
              have HTl := Lib.hid hdec
              clear hta htb hdec
              cases ta
              · go_wp2_with fail
                refine (hasInt_v _ zs k (show decide ((k : Int) ∈ zs) = false from HTl.out) _ hrr L9.out.row).mono ?_
                rintro e w10 ⟨rfl, hb10⟩
                have b10 := hbel.trans (hb10.mono hbel.size)
                have B10 := Lib.hid (OwnI.keep B9.out hb10)
                clear p0 p1
                go_wp2_with fail
                refine (hasInt_v _ xs k HTa.out _ hr7 B10.out.row).mono ?_
                rintro e w11 ⟨rfl, hb11⟩
                have b11 := b10.trans (hb11.mono b10.size)
                go_wp2_with fail
                go_roundw
                case rel => exact ⟨k + 1, by omega, by go_num, b11⟩
                case measure => simp [intOf]; omega
              · cases tb
                all_goals
                  go_wp2_with fail
                  refine (hasInt_v _ zs k HTl.out _ hrr L9.out.row).mono ?_
                  rintro e w10 ⟨rfl, hb10⟩
                  have b10 := hbel.trans (hb10.mono hbel.size)
                  have B10 := Lib.hid (OwnI.keep B9.out hb10)
                  have C10 := Lib.hid (OwnI.keep C9.out hb10)
                  clear p0 p1
                  simp only [Bool.not_false, Bool.not_true, Bool.and_true, Bool.and_false]
                  go_wp2_with fail
                  refine (hasInt_v _ xs k HTa.out _ hr7 B10.out.row).mono ?_
                  rintro e w11 ⟨rfl, hb11⟩
                  have b11 := b10.trans (hb11.mono b10.size)
                  have C11 := Lib.hid (OwnI.keep C10.out hb11)
                  go_wp2_with fail
                  refine (hasInt_v _ ys k HTb.out _ hr8 C11.out.row).mono ?_
                  rintro e w12 ⟨rfl, hb12⟩
                  have b12 := b11.trans (hb12.mono b11.size)
                  go_wp2_with fail
                  go_roundw
                  case rel => exact ⟨k + 1, by omega, by go_num, b12⟩
                  case measure => simp [intOf]; omega
            · have b9 := b8.trans (hbel.mono b8.size)
              obtain rfl : k = nb := by omega
              go_wp2_with fail
              refine (ascend_any A4 zs.length c4 zs _ hrr L9.out.rowZ HAsc.out).mono ?_
              rintro e w10 ⟨rfl, hb10⟩
              go_wp2
              go_ret
              exact ⟨rfl, b9.trans (hb10.mono b9.size)⟩
  · have hl2 : (1048576 : Int) < (n : Int) := by omega
    go_enter Tryd.func6, Tryd.ntmps6
    go_wp2
    go_ret
    exact ⟨rfl, Below.refl _ _⟩
end Go.Proofs.YtbhlkcnkijihcaaDoor
