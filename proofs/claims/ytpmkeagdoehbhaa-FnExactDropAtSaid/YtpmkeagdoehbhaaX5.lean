/- DropAt, WorstBus, DropsWithin, of the model; a row of buses with more load at one. -/
import Derived.Test.YtpmkeagdoehbhaaX3
import Derived.Test.YtpmkeagdoehbhaaX4
import Derived.BigQuiet
namespace Go.Proofs.Ytpmkeagdoehbhaa
open Go.ChangeShapes Go.WideShapes Go.ChangeAt Go.RowKit

set_option maxRecDepth 100000 in
set_option maxHeartbeats 1000000 in
theorem specDropAt_any (bs : Int) (A : Option Addr) (n c : Nat) (ls : List L3) (B : Option Addr) (m d : Nat) (ts : List Bool) (U : Option Addr) (q r : Nat) (us : List U2) (O : Option Addr) (p s : Nat) (os : List Int) (bus : Int) (w : World) (hn : n ≤ 1048576) (hr : RowL w A n ls) (hm : m ≤ 1048576) (hrt : RowT w B m ts) (hq : q ≤ 1048576) (hu : RowU w U q us) (hp : p ≤ 1048576) (hro : RowZ w O p os) :
    Calls Try.prog 9 #[.agg #[.int .i64 bs, .slice A n c], .slice B m d, .slice U q r, .slice O p s, .int .i64 bus] w fun e w' => e = .returned (.int .i64 (drpF bs ls ts us os bus)) ∧ Below w.heap.size w w' := by
  have b0 := below_bx w (.cells #[.int .i64 bs, .slice A n c] 33)
  have K0 := Lib.hid (IsBlk.new w 33 #[.int .i64 bs, .slice A n c])
  have HR := Lib.hid hr
  have HT := Lib.hid hrt
  have HU := Lib.hid hu
  have HRO := Lib.hid hro
  clear hr hrt hu hro
  go_enter Try.func9, Try.ntmps9
  go_wp2_with fail
  refine (l8Ok_any bs _ n c ls _ m d ts _ q r us _ p s os _ hn (HR.out.below b0) hm (HT.out.below b0) hq (HU.out.below b0) hp (HRO.out.below b0)).mono ?_
  rintro e w1 ⟨rfl, hb1⟩
  have a1 := b0.trans (hb1.mono b0.size)
  obtain ⟨p0, p1, _, _⟩ := (K0.out.keep hb1).two
  cases hok : okO bs ls ts us os
  · have E1 := Lib.hid (drpF_bad (bus := bus) hok)
    clear hok
    go_wp2
    go_ret
    exact ⟨retI E1.out.symm, a1⟩
  · have hbs := okO_bs hok
    obtain ⟨nb, rfl⟩ := Int.eq_ofNat_of_zero_le (show 0 ≤ bs by omega)
    have HO := Lib.hid hok
    have hwr : IntKind.i64.wrap ((nb : Int) - 1) = (nb : Int) - 1 := IntWalk.i64_in _ (by omega)
    clear hok
    cases hw : inB bus 0 ((nb : Int) - 1)
    · have E1 := Lib.hid (show drpF nb ls ts us os bus = -1 by rw [drpF, if_neg (by rw [hw]; simp)])
      go_wp2_with fail
      refine (l1In_any bus 0 _ _).mono ?_
      rintro e w2 ⟨rfl, rfl⟩
      rw [hw]
      clear hwr
      go_wp2
      go_ret
      exact ⟨retI E1.out.symm, a1⟩
    · have hw2 := hw
      simp only [inB, Bool.and_eq_true, decide_eq_true_eq] at hw2
      obtain ⟨k, rfl⟩ := Int.eq_ofNat_of_zero_le hw2.1
      have hk : k < nb := by omega
      have E1 := Lib.hid (drpF_at HO.out hk)
      have ii0 : (0 : Int) ≤ (k : Int) := by omega
      have ii1 : (k : Int) < (nb : Int) := by omega
      clear hw2
      go_wp2_with fail
      refine (l1In_any _ 0 _ _).mono ?_
      rintro e w2 ⟨rfl, rfl⟩
      rw [hw]
      clear hwr hw
      go_wp2_with fail
      refine (l8Drops_any nb _ n c ls _ m d ts _ q r us _ p s os _ (HR.out.below a1) (HT.out.below a1) (HU.out.below a1) (HRO.out.below a1) HO.out).mono ?_
      rintro e w3 ⟨v, rfl, hO3, hb3⟩
      obtain ⟨A3, c3, rfl, hZ3⟩ := hO3.sl
      rw [drpL_len] at hZ3 ⊢
      obtain ⟨b, off, z, rfl, hb, hkz, c0⟩ := hZ3.at_ hk
      rw [drpL_get hk] at hkz
      injection hkz with hkz
      subst hkz
      generalize drpV ls ts us os nb k = Z at *
      clear hO3 hZ3 p0 p1
      go_wp2
      go_ret
      exact ⟨retI E1.out.symm, a1.trans (hb3.mono a1.size)⟩

set_option maxRecDepth 100000 in
set_option maxHeartbeats 1000000 in
theorem l8Worst_any (D : Option Addr) (n c : Nat) (ds : List Int) (w : World) (hn : n ≤ 1000) (hr : RowZ w D n ds) :
    Calls Try.prog 35 #[.slice D n c] w fun e w' => e = .returned (.int .i64 (worstTo ds n)) ∧ Below w.heap.size w w' := by
  have HR := Lib.hid hr
  clear hr
  go_enter Try.func35, Try.ntmps35
  go_wp2
  go_loopw [3, 4] (fun x i wr => ∃ k : Nat, k ≤ n ∧ i = .int .i64 k ∧ x = .int .i64 (worstTo ds k) ∧ Below w.heap.size w wr) (fun _ i _ => n - (intOf i).toNat)
  case atStart => exact ⟨0, by omega, rfl, rfl, Below.refl _ _⟩
  case round =>
    obtain ⟨k, hk, rfl, rfl, hbel⟩ := hrel
    by_cases hlt : k < n
    · obtain ⟨b, off, z, rfl, hb, hkz, c0⟩ := (HR.out.below hbel).at_ hlt
      have HV := Lib.hid (valAt_get hkz)
      have ii0 : (0 : Int) ≤ (k : Int) := by omega
      have ii1 : (k : Int) < (n : Int) := by omega
      clear hkz
      by_cases hz : 0 ≤ z
      · have hzd : decide (0 ≤ z) = true := by simpa using hz
        rcases worstTo_spec ds k with ⟨h1, _⟩ | ⟨j, h1, h2, h3, _, _⟩
        · have HN := Lib.hid (show worstTo ds (k + 1) = (k : Int) by rw [worstTo, if_pos ⟨by rw [HV.out]; exact hz, .inl (by omega)⟩])
          rw [h1]
          clear h1
          go_wp2
          go_quiet (fail)
          go_wp2
          go_roundw
          case rel => exact ⟨k + 1, by omega, by go_num, by rw [HN.out], below_drewN hbel _⟩
          case measure => simp [intOf]; omega
        · obtain ⟨b2, off2, y, e2, hb2, hky, c1⟩ := (HR.out.below hbel).at_ (show j < n by omega)
          injection e2 with e2
          injection e2 with e21 e22
          subst e21 e22
          have HVJ := Lib.hid (valAt_get hky)
          have jj0 : (0 : Int) ≤ (j : Int) := by omega
          have jj1 : (j : Int) < (n : Int) := by omega
          have jjd : decide ((j : Int) < 0) = false := by simp
          clear hky
          by_cases hgt : y < z
          · have HN := Lib.hid (show worstTo ds (k + 1) = (k : Int) by rw [worstTo, if_pos ⟨by rw [HV.out]; exact hz, .inr (by rw [h1, Int.toNat_natCast, HV.out, HVJ.out]; exact hgt)⟩])
            rw [h1]
            clear h1 h3
            go_wp2
            go_quiet (fail)
            go_wp2
            go_roundw
            case rel => exact ⟨k + 1, by omega, by go_num, by rw [HN.out], below_drewN hbel _⟩
            case measure => simp [intOf]; omega
          · have HN := Lib.hid (show worstTo ds (k + 1) = (j : Int) by
              rw [worstTo, if_neg, h1]
              rintro ⟨_, h4 | h4⟩
              · omega
              · rw [h1, Int.toNat_natCast, HV.out, HVJ.out] at h4; exact hgt h4)
            rw [h1]
            clear h1 h3
            go_wp2
            go_quiet (fail)
            go_wp2
            go_roundw
            case rel => exact ⟨k + 1, by omega, by go_num, by rw [HN.out], below_drewN hbel _⟩
            case measure => simp [intOf]; omega
      · have hzd : decide (0 ≤ z) = false := by simpa using hz
        have HN := Lib.hid (show worstTo ds (k + 1) = worstTo ds k by rw [worstTo, if_neg (fun h => hz (by rw [← HV.out]; exact h.1))])
        generalize hW : worstTo ds k = W at *
        clear hW
        go_wp2
        go_quiet (fail)
        go_wp2
        go_roundw
        case rel => exact ⟨k + 1, by omega, by go_num, by rw [HN.out], below_drewN hbel _⟩
        case measure => simp [intOf]; omega
    · obtain rfl : k = n := by omega
      generalize hW : worstTo ds k = W at *
      have HW := Lib.hid hW
      clear hW
      go_wp2
      go_ret
      exact ⟨retI HW.out.symm, hbel⟩

set_option maxRecDepth 100000 in
set_option maxHeartbeats 1000000 in
theorem specWorstBus_any (bs : Int) (A : Option Addr) (n c : Nat) (ls : List L3) (B : Option Addr) (m d : Nat) (ts : List Bool) (U : Option Addr) (q r : Nat) (us : List U2) (O : Option Addr) (p s : Nat) (os : List Int) (w : World) (hn : n ≤ 1048576) (hr : RowL w A n ls) (hm : m ≤ 1048576) (hrt : RowT w B m ts) (hq : q ≤ 1048576) (hu : RowU w U q us) (hp : p ≤ 1048576) (hro : RowZ w O p os) :
    Calls Try.prog 19 #[.agg #[.int .i64 bs, .slice A n c], .slice B m d, .slice U q r, .slice O p s] w fun e w' => e = .returned (.int .i64 (wrsF bs ls ts us os)) ∧ Below w.heap.size w w' := by
  have b0 := below_bx w (.cells #[.int .i64 bs, .slice A n c] 33)
  have K0 := Lib.hid (IsBlk.new w 33 #[.int .i64 bs, .slice A n c])
  have HR := Lib.hid hr
  have HT := Lib.hid hrt
  have HU := Lib.hid hu
  have HRO := Lib.hid hro
  clear hr hrt hu hro
  go_enter Try.func19, Try.ntmps19
  go_wp2_with fail
  refine (l8Ok_any bs _ n c ls _ m d ts _ q r us _ p s os _ hn (HR.out.below b0) hm (HT.out.below b0) hq (HU.out.below b0) hp (HRO.out.below b0)).mono ?_
  rintro e w1 ⟨rfl, hb1⟩
  have a1 := b0.trans (hb1.mono b0.size)
  obtain ⟨p0, p1, _, _⟩ := (K0.out.keep hb1).two
  cases hok : okO bs ls ts us os
  · have E1 := Lib.hid (wrsF_bad hok)
    clear hok
    go_wp2
    go_ret
    exact ⟨retI E1.out.symm, a1⟩
  · have hbs := okO_bs hok
    obtain ⟨nb, rfl⟩ := Int.eq_ofNat_of_zero_le (show 0 ≤ bs by omega)
    have HO := Lib.hid hok
    have E1 := Lib.hid (wrs_all hok)
    clear hok
    go_wp2_with fail
    refine (l8Drops_any nb _ n c ls _ m d ts _ q r us _ p s os _ (HR.out.below a1) (HT.out.below a1) (HU.out.below a1) (HRO.out.below a1) HO.out).mono ?_
    rintro e w3 ⟨v, rfl, hO3, hb3⟩
    have a3 := a1.trans (hb3.mono a1.size)
    obtain ⟨A3, c3, rfl, hZ3⟩ := hO3.sl
    rw [drpL_len] at hZ3 ⊢
    clear hO3 p0 p1
    go_wp2_with fail
    refine (l8Worst_any A3 nb c3 (drpL ls ts us os nb) _ (by omega) hZ3).mono ?_
    rintro e w4 ⟨rfl, hb4⟩
    go_wp2
    go_ret
    exact ⟨retI E1.out.symm, a3.trans (hb4.mono a3.size)⟩

set_option maxRecDepth 100000 in
set_option maxHeartbeats 1000000 in
theorem l8Within_any (nb : Nat) (A : Option Addr) (n c : Nat) (ls : List L3) (B : Option Addr) (m d : Nat) (ts : List Bool) (U : Option Addr) (q r : Nat) (us : List U2) (O : Option Addr) (p s : Nat) (os : List Int) (most : Int) (w : World) (hn : n ≤ 1048576) (hr : RowL w A n ls) (hm : m ≤ 1048576) (hrt : RowT w B m ts) (hq : q ≤ 1048576) (hu : RowU w U q us) (hro : RowZ w O p os)
    (h : okO nb ls ts us os = true) :
    Calls Try.prog 36 #[.agg #[.int .i64 (nb : Int), .slice A n c], .slice B m d, .slice U q r, .slice O p s, .int .i64 most] w fun e w' => e = .returned (.bool (dwiF nb ls ts us os most)) ∧ Below w.heap.size w w' := by
  have b0 := below_bx w (.cells #[.int .i64 (nb : Int), .slice A n c] 33)
  have K0 := Lib.hid (IsBlk.new w 33 #[.int .i64 (nb : Int), .slice A n c])
  have HR := Lib.hid hr
  have HT := Lib.hid hrt
  have HU := Lib.hid hu
  have HRO := Lib.hid hro
  have HO := Lib.hid h
  have hbs := okO_bs h
  have HG := Lib.hid (dwi_good (most := most) h)
  have HWI := Lib.hid (worst_in (drpL ls ts us os nb) most nb)
  have HRA := Lib.hid (okO_iff.1 h).1
  clear hr hrt hu hro h
  go_enter Try.func36, Try.ntmps36
  go_wp2_with fail
  refine (l8Drops_any nb _ n c ls _ m d ts _ q r us _ p s os _ (HR.out.below b0) (HT.out.below b0) (HU.out.below b0) (HRO.out.below b0) HO.out).mono ?_
  rintro e w1 ⟨v, rfl, hO1, hb1⟩
  have a1 := b0.trans (hb1.mono b0.size)
  obtain ⟨A1, c1, rfl, hZ1⟩ := hO1.sl
  rw [drpL_len] at hZ1 ⊢
  have HZ1 := Lib.hid hZ1
  have K1 := Lib.hid (K0.out.keep hb1)
  clear hO1 hZ1
  go_wp2_with fail
  refine (l8Worst_any A1 nb c1 (drpL ls ts us os nb) _ (by omega) HZ1.out).mono ?_
  rintro e w2 ⟨rfl, hb2⟩
  have a2 := a1.trans (hb2.mono a1.size)
  have HZ2 := Lib.hid (HZ1.out.below hb2)
  obtain ⟨p0, p1, _, _⟩ := (K1.out.keep hb2).two
  have HWS := Lib.hid (worstTo_spec (drpL ls ts us os nb) nb)
  generalize worstTo (drpL ls ts us os nb) nb = WR at *
  go_wp2_with fail
  refine (l7Good_any nb _ n c ls _ m d ts _ q r us _ hn (HR.out.below a2) hm (HT.out.below a2) hq (HU.out.below a2) HRA.out).mono ?_
  rintro e w3 ⟨rfl, hb3⟩
  have a3 := a2.trans (hb3.mono a2.size)
  cases hg : godF nb ls ts us
  · have E1 := Lib.hid (show dwiF nb ls ts us os most = false by rw [Bool.eq_false_iff]; intro h; have := (HG.out.1 h).1; rw [hg] at this; cases this)
    go_wp2
    go_ret
    exact ⟨retB E1.out.symm, a3⟩
  · have HG2 := Lib.hid (show dwiF nb ls ts us os most = true ↔ (WR < 0 ∨ valAt (drpL ls ts us os nb) WR.toNat ≤ most) by rw [HG.out, HWI.out]; exact ⟨fun h => h.2, fun h => ⟨hg, h⟩⟩)
    clear hg
    rcases HWS.out with ⟨rfl, _⟩ | ⟨j, rfl, hj, _, _, _⟩
    · have E1 := Lib.hid (HG2.out.2 (.inl (by omega)))
      go_wp2
      go_ret
      exact ⟨retB E1.out.symm, a3⟩
    · obtain ⟨b, off, z, rfl, hb, hkz, c0⟩ := (HZ2.out.below hb3).at_ hj
      have HV := Lib.hid (valAt_get hkz)
      have jj0 : (0 : Int) ≤ (j : Int) := by omega
      have jj1 : (j : Int) < (nb : Int) := by omega
      clear hkz
      by_cases hle : z ≤ most
      · have E1 := Lib.hid (HG2.out.2 (.inr (by rw [Int.toNat_natCast, HV.out]; exact hle)))
        go_wp2
        go_ret
        exact ⟨retB (by first | exact E1.out.symm | (rw [E1.out]; simp [hle])), a3⟩
      · have E1 := Lib.hid (show dwiF nb ls ts us os most = false by
          rw [Bool.eq_false_iff]; intro h
          rcases HG2.out.1 h with h | h
          · omega
          · rw [Int.toNat_natCast, HV.out] at h; exact hle h)
        go_wp2
        go_ret
        exact ⟨retB (by first | exact E1.out.symm | (rw [E1.out]; simp [hle])), a3⟩

set_option maxRecDepth 100000 in
set_option maxHeartbeats 1000000 in
theorem specDropsWithin_any (bs : Int) (A : Option Addr) (n c : Nat) (ls : List L3) (B : Option Addr) (m d : Nat) (ts : List Bool) (U : Option Addr) (q r : Nat) (us : List U2) (O : Option Addr) (p s : Nat) (os : List Int) (most : Int) (w : World) (hn : n ≤ 1048576) (hr : RowL w A n ls) (hm : m ≤ 1048576) (hrt : RowT w B m ts) (hq : q ≤ 1048576) (hu : RowU w U q us) (hp : p ≤ 1048576) (hro : RowZ w O p os) :
    Calls Try.prog 21 #[.agg #[.int .i64 bs, .slice A n c], .slice B m d, .slice U q r, .slice O p s, .int .i64 most] w fun e w' => e = .returned (.bool (dwiF bs ls ts us os most)) ∧ Below w.heap.size w w' := by
  have b0 := below_bx w (.cells #[.int .i64 bs, .slice A n c] 33)
  have K0 := Lib.hid (IsBlk.new w 33 #[.int .i64 bs, .slice A n c])
  have HR := Lib.hid hr
  have HT := Lib.hid hrt
  have HU := Lib.hid hu
  have HRO := Lib.hid hro
  clear hr hrt hu hro
  go_enter Try.func21, Try.ntmps21
  go_wp2_with fail
  refine (l8Ok_any bs _ n c ls _ m d ts _ q r us _ p s os _ hn (HR.out.below b0) hm (HT.out.below b0) hq (HU.out.below b0) hp (HRO.out.below b0)).mono ?_
  rintro e w1 ⟨rfl, hb1⟩
  have a1 := b0.trans (hb1.mono b0.size)
  obtain ⟨p0, p1, _, _⟩ := (K0.out.keep hb1).two
  cases hok : okO bs ls ts us os
  · have E1 := Lib.hid (dwiF_bad (most := most) hok)
    clear hok
    go_wp2
    go_ret
    exact ⟨retB E1.out.symm, a1⟩
  · have hbs := okO_bs hok
    obtain ⟨nb, rfl⟩ := Int.eq_ofNat_of_zero_le (show 0 ≤ bs by omega)
    have HO := Lib.hid hok
    clear hok
    go_wp2_with fail
    refine (l8Within_any nb _ n c ls _ m d ts _ q r us _ p s os most _ hn (HR.out.below a1) hm (HT.out.below a1) hq (HU.out.below a1) (HRO.out.below a1) HO.out).mono ?_
    rintro e w2 ⟨rfl, hb2⟩
    go_wp2
    go_ret
    exact ⟨rfl, a1.trans (hb2.mono a1.size)⟩

set_option maxRecDepth 100000 in
set_option maxHeartbeats 1000000 in
/-- A row of buses with more load at one. -/
theorem l8With_any (U : Option Addr) (q r : Nat) (us : List U2) (k : Nat) (more : Int) (w : World) (hq : q ≤ 1048576) (hu : RowU w U q us) (hk : k < q) (h0 : 0 ≤ ld us k ∧ ld us k ≤ 999) (h1 : 0 ≤ more ∧ more ≤ 1000) :
    Calls Try.prog 39 #[.slice U q r, .int .i64 (k : Int), .int .i64 more] w fun e w' => ∃ v, e = .returned v ∧ OwnU w' w.heap.size v (moreU us k more) ∧ Below w.heap.size w w' := by
  obtain ⟨i0, hi, hz0, hz1, hz2⟩ := info_parts busInfo8
  have HI0 := Lib.hid hi
  have HL := hu.1
  have HO0 := Lib.hid (World.ownsRow_lit (base := w.heap.size) (size := 2) (e := 55) w #[] 0 (by omega) (by decide) rfl)
  clear hi
  have hkl : us[k]? = some (us[k]'(by omega)) := List.getElem?_eq_getElem _
  obtain ⟨bU, offU, _, hU, _⟩ := hu.at_ hk
  subst hU
  have HC := Lib.hid (src_cellsU (hu.below (below_bx w (.cells #[] 55))))
  have HL1 := Lib.hid (show (us.flatMap fU).length = q * 2 by rw [flat_len fU_len, HL])
  have HKL := Lib.hid hkl
  have hld := ld_at hkl
  have hfd := fd_at hkl
  rw [hld] at h0
  have HLD := Lib.hid hld
  have HFD := Lib.hid hfd
  generalize us[k]'(by omega) = u at *
  clear hu hkl hld hfd
  have ii0 : (0 : Int) ≤ (k : Int) := by omega
  have ii1 : (k : Int) < (q : Int) := by omega
  go_enter Try.func39, Try.ntmps39
  go_upto_region 2 with (
    at_builtin
    refine wpList_append_own _ rfl _ _ _ rfl w.heap.size 55 i0 (.agg #[.int .i64 0, .int .i64 0]) 2 16 Try.underlying36 HI0.out hz0 hz1 hz2 rfl (by decide) _ _ _ rfl HO0.out ⟨bU, offU, none⟩ q r (us.flatMap fU) rfl HL1.out ?c1 ?c2 ?c3 ?c4 ?c5 ?_
    case c1 => exact HC.out
    case c2 => exact int_oneU us
    case c3 => simp only [maxLen]; omega
    case c4 => omega
    case c5 => simp
    intro v' w3 hown' hgrow _
    have hb3 : Below w.heap.size w w3 := (below_bx w _).grown hgrow (by simp) (fun q hq => (World.ownsRow.lt HO0.out q hq).1))
  have hO3 : OwnU w3 w.heap.size v' us := by
    show World.ownsRow _ _ _ _ _ us.length _
    rw [HL]
    simpa using hown'
  obtain ⟨x, y⟩ := u
  simp only at h0
  obtain ⟨g, cap, rfl, hg, hgl, hfr, _, hput⟩ := OwnU.put (u' := (x, y + more)) (x := .int .i64 (y + more)) hO3 HKL.out (show 1 < 2 by decide) rfl
  obtain ⟨A3, c3, e3, hU3⟩ := hO3.row
  injection e3 with e31 _ e33
  subst e31 e33
  obtain ⟨b4, off4, u4, e4, _, hku, _, c1⟩ := hU3.at_ (show k < us.length by omega)
  injection e4 with e4
  injection e4 with e41 e42
  subst e41 e42
  rw [HKL.out] at hku
  injection hku with hku
  subst hku
  rw [Nat.zero_add] at c1
  have HP := Lib.hid hput
  have HM := Lib.hid (show moreU us k more = us.set k (x, y + more) by rw [moreU, HFD.out, HLD.out])
  have hwr : IntKind.i64.wrap (y + more) = y + more := IntWalk.i64_in _ (by omega)
  rw [HL]
  clear hown' hgrow hO3 hU3 hput
  go_wp2
  go_ret
  exact ⟨_, rfl, by rw [HM.out]; simpa [HL] using HP.out, hb3.setCell hg _⟩
end Go.Proofs.Ytpmkeagdoehbhaa
