/- FnOverloads: the walk. -/
import Derived.Test.YtbhlkcnkijihcaaDoorO2
import Derived.Test.YtbhlkcnkijihcaaDoorQ3
import Derived.Deep.RegionHeld3
namespace Go.Proofs.YtbhlkcnkijihcaaDoor
open Go.ChangeShapes Go.WideShapes Go.ChangeAt Go.RowKit

set_option maxRecDepth 100000 in
set_option maxHeartbeats 8000000 in
theorem overloadsL_walk (w : World) (A : Option Addr) (n c : Nat) (code : List Int) (hr : RowB w A n code) (hnc : n ≤ c) (hc : c ≤ 9223372036854775807) :
    Calls Tryd.prog 9 #[.slice A n c] w fun e w' => e = .returned (.bool true) ∧ Below w.heap.size w w' := by
  by_cases hlen : n ≤ 1048576
  · go_enter Tryd.func9, Tryd.ntmps9
    go_wp2_with fail
    refine (drawOverloads_any A n c code _ hr hnc hc).mono ?_
    rintro e w1 ⟨bs, A1, c1, ls, A2, c2, ts, A3, c3, us, rfl, hrow, hls, hb0, hb9, hrt, hts, hru, hus, a1⟩
    have hbx := below_bx w1 (.cells #[.int .i64 bs, .slice A1 ls.length c1] 25)
    have S1 := Lib.hid (show LawSt w (w1.alloc (.cells #[.int .i64 bs, .slice A1 ls.length c1] 25)) w1.heap.size bs A1 c1 ls A2 ts A3 us from ⟨a1.alloc a1.size _, IsBlk.new w1 25 #[.int .i64 bs, .slice A1 ls.length c1], hrow.below hbx, hrt.below hbx, hru.below hbx⟩)
    clear hrow hr hrt hru a1 hbx
    have h1 : ls.length ≤ 1048576 := by omega
    have h2 : ts.length ≤ 1048576 := by omega
    have h3 : us.length ≤ 1048576 := by omega
    have hlo : (ovlF bs ls ts us).length ≤ 1048576 := Nat.le_trans (ovlF_len _ _ _ _) (by decide)
    go_wp2_with fail
    refine (overloads_any bs A1 ls.length c1 ls A2 ts.length c2 ts A3 us.length c3 us _ h1 S1.out.row h2 S1.out.tr h3 S1.out.bu).mono ?_
    rintro e w2 ⟨v2, rfl, hO2, hb2⟩
    have S2 := Lib.hid (S1.out.next hb2)
    have L2 := Lib.hid hO2
    obtain ⟨A4, c4, rfl, _⟩ := hO2.sl
    obtain ⟨p0, p1, _, _⟩ := S2.out.net.two
    clear S1 hb2 hO2
    generalize w1.heap.size = X at *
    go_wp2_with fail
    refine (specOverloads_any bs A1 ls.length c1 ls A2 ts.length c2 ts A3 us.length c3 us _ h1 S2.out.row h2 S2.out.tr h3 S2.out.bu).mono ?_
    rintro e w3 ⟨v3, rfl, hO3, hb3⟩
    have S3 := Lib.hid (S2.out.next hb3)
    have L3 := Lib.hid (OwnI.keep L2.out hb3)
    have M3 := Lib.hid hO3
    clear S2 L2 hb3 hO3 p0 p1
    go_wp2_with fail
    refine (sameInts_own hlo L3.out M3.out).mono ?_
    rintro e w4 ⟨rfl, hb4⟩
    have S4 := Lib.hid (S3.out.next hb4)
    have L4 := Lib.hid (OwnI.keep L3.out hb4)
    clear S3 L3 M3 hb4
    obtain ⟨p0, p1, _, _⟩ := S4.out.net.two
    go_wp2_with fail
    refine (specRadial_any bs A1 ls.length c1 ls A2 ts.length c2 ts A3 us.length c3 us _ h1 S4.out.row h2 S4.out.tr h3 S4.out.bu).mono ?_
    rintro e w5 ⟨rfl, hb5⟩
    have S5 := Lib.hid (S4.out.next hb5)
    have L5 := Lib.hid (OwnI.keep L4.out hb5)
    clear S4 L4 hb5 p0 p1
    obtain ⟨p0, p1, _, _⟩ := S5.out.net.two
    cases hx : radF bs ls ts us
    · have hz : (ovlF bs ls ts us).length = 0 := by rw [ovl_bad hx]; rfl
      rw [hz]
      go_wp2_with fail
      refine (alive_any _).mono ?_
      rintro e w6 ⟨rfl, hb6⟩
      go_wp2
      go_ret
      exact ⟨rfl, S5.out.bel.trans (hb6.mono S5.out.bel.size)⟩
    · have ho := (radF_iff.1 hx).1
      have hbs := okU_bs ho
      obtain ⟨nb, rfl⟩ := Int.eq_ofNat_of_zero_le (show 0 ≤ bs by omega)
      have HST := Lib.hid (okU_st ho)
      have HTL := Lib.hid (show ts.length = ls.length by have := stOk_len (okU_st ho); omega)
      have HLN := Lib.hid (fun (k : Nat) (hk : k < ts.length) => lfl_at hx hk)
      have HHAS := Lib.hid (fun (k : Nat) (hk : k < ts.length) => ovl_has hx hk)
      have HSUB := Lib.hid (fun (k : Nat) => ovl_off hx k)
      have HAsc := Lib.hid (ovl_asc (bs := nb) (ls := ls) (ts := ts) (us := us))
      have HLO := Lib.hid (fun (k : Nat) => (show (ovlF nb ls (ts.set k false) us).length ≤ 1048576 from Nat.le_trans (ovlF_len _ _ _ _) (by decide)))
      clear ho hx
      generalize ovlF (nb : Int) ls ts us = xs at *
      go_wp2
      go_loopw [7] (fun i wr => ∃ k : Nat, k ≤ ts.length ∧ i = .int .i64 k ∧ Below w5.heap.size w5 wr) (fun i _ => ts.length - (intOf i).toNat)
      case atStart => exact ⟨0, by omega, rfl, Below.refl _ _⟩
      case round =>
        obtain ⟨k, hk, rfl, hbel⟩ := hrel
        have S7 := Lib.hid (S5.out.next hbel)
        have L7 := Lib.hid (OwnI.keep L5.out hbel)
        clear p0 p1
        obtain ⟨p0, p1, _, _⟩ := S7.out.net.two
        by_cases hlt : k < ts.length
        · have hs := HST.out
          go_wp2_with fail
          refine (offOn_any nb A1 ls.length c1 ls A2 ts.length c2 ts k _ h1 S7.out.row h2 S7.out.tr).mono ?_
          rintro e w6 ⟨va, vb, rfl, hOa, hOb, hb6⟩
          rw [swV_at hlt hs] at hOa hOb
          have S6 := Lib.hid (S7.out.next hb6)
          have L6 := Lib.hid (OwnI.keep L7.out hb6)
          obtain ⟨Aa, ca, rfl, _, hTa⟩ := hOa.row
          obtain ⟨Ab, cb, rfl, _, hTb⟩ := hOb.row
          rw [List.length_set] at hTa hTb ⊢
          rw [List.length_set]
          have Q6 := Lib.hid hTa
          have hbel6 := hbel.trans (hb6.mono hbel.size)
          clear hTa hTb hOa hOb p0 p1 hs
          obtain ⟨p0, p1, _, _⟩ := S6.out.net.two
          obtain ⟨bq, offq, l, hA1, hbq, hkl, g2⟩ := line_at S6.out.row (show k < ls.length by have := HTL.out; omega)
          have hmo := mostOf_at hkl
          have HH := Lib.hid (HHAS.out k hlt)
          have HLNK := Lib.hid (HLN.out k hlt)
          rw [hmo] at HH
          subst hA1
          have CL := Lib.hid (fun (W : World) (hW : Below w6.heap.size w6 W) => show Calls Tryd.prog 34 #[.agg #[.int .i64 (nb : Int), .slice (some ⟨bq, offq, none⟩) ls.length c1], .slice A2 ts.length c2, .slice A3 us.length c3, .int .i64 (k : Int)] W (fun e w' => e = .returned (.int .i64 (flo ls ts us nb k)) ∧ Below W.heap.size W w') by
            rw [← HLNK.out]
            exact lineFlow_any nb _ ls.length c1 ls _ ts.length c2 ts _ us.length c3 us k W h1 (S6.out.next hW).row h2 (S6.out.next hW).tr h3 (S6.out.next hW).bu)
          have CO := Lib.hid (fun (W : World) (hW : Below w6.heap.size w6 W) => overloads_any nb (some ⟨bq, offq, none⟩) ls.length c1 ls Aa ts.length ca (ts.set k false) A3 us.length c3 us W h1 (S6.out.next hW).row h2 (Q6.out.below hW) h3 (S6.out.next hW).bu)
          have HSUBK := Lib.hid (HSUB.out k)
          have HLOK := Lib.hid (HLO.out k)
          have ii0 : (0 : Int) ≤ (k : Int) := by omega
          have ii1 : (k : Int) < (ls.length : Int) := by have := HTL.out; omega
          have hXl := S6.out.net.lt
          clear hkl hmo
          generalize flo ls ts us nb k = FK at *
          obtain ⟨tv, htv⟩ : ∃ t, decide ((k : Int) ∈ xs) = t := ⟨_, rfl⟩
          have HTV := Lib.hid htv
          rw [htv] at HH
          clear htv
          by_cases hov : l.2.2 < FK
          all_goals
            first
              | (have hdec : decide (l.2.2 < FK) = true := decide_eq_true hov)
              | (have hdec : decide (l.2.2 < FK) = false := decide_eq_false hov)
            have hd2 := HH.out.trans hdec
            subst hd2
            clear HH
            go_wp2
            go_region_held3 (fun w' => Below w6.heap.size w6 w' ∧ w'.cell? ⟨X, 0, none⟩ = some (.int .i64 (nb : Int)) ∧ w'.cell? ⟨X, 1, none⟩ = some (.slice (some ⟨bq, offq, none⟩) ls.length c1) ∧ w'.cell? ⟨bq, offq + k * 3 + 2, none⟩ = some (.int .i64 l.2.2))
              (first | exact holdC p0 p1 hXl g2 hbq hBd | exact holdC p0 p1 hXl g2 hbq hBc | exact holdC p0 p1 hXl g2 hbq hBb | exact holdC p0 p1 hXl g2 hbq hBa | exact holdC p0 p1 hXl g2 hbq (Below.refl _ _) | exact holdC p0 p1 hXl g2 hbq (Below.drew (Below.refl _ _)))
              (first
                | (go_at_call 15; refine (hasInt_v _ xs k HTV.out _ hlo (OwnI.keep L6.out (Below.drew (Below.refl _ _))).row).mono ?_; rintro e wa ⟨rfl, hba⟩; have hBa : Below w6.heap.size w6 wa := (Below.drew (Below.refl _ _)).trans hba)
                | (go_at_call 34; (with_reducible refine (CL.out _ hBa).mono ?_); rintro e wb ⟨rfl, hbb⟩; have hBb : Below w6.heap.size w6 wb := hBa.trans (hbb.mono hBa.size))
                | (go_at_call 41; (with_reducible refine (CO.out _ hBb).mono ?_); rintro e wc ⟨vo, rfl, hOo, hbc⟩; have hBc : Below w6.heap.size w6 wc := hBb.trans (hbc.mono hBb.size))
                | (go_at_call 43; refine (withinL_any _ _ _ xs HSUBK.out _ HLOK.out hlo hOo.row (OwnI.keep L6.out hBc).row).mono ?_; rintro e wd ⟨rfl, hbd⟩; have hBd : Below w6.heap.size w6 wd := hBc.trans (hbd.mono hBc.size)))
            go_wp2
            go_roundw
            case rel => exact ⟨k + 1, by omega, by go_num, hbel6.trans (hBd.mono hbel6.size)⟩
            case measure => simp [intOf]; omega
        · have b9 := S7.out.bel
          go_wp2_with fail
          refine (ascend_any A4 xs.length c4 xs _ hlo L7.out.rowZ HAsc.out).mono ?_
          rintro e w10 ⟨rfl, hb10⟩
          go_wp2
          go_ret
          exact ⟨rfl, b9.trans (hb10.mono b9.size)⟩
  · have hl2 : (1048576 : Int) < (n : Int) := by omega
    go_enter Tryd.func9, Tryd.ntmps9
    go_wp2
    go_ret
    exact ⟨rfl, Below.refl _ _⟩
end Go.Proofs.YtbhlkcnkijihcaaDoor
