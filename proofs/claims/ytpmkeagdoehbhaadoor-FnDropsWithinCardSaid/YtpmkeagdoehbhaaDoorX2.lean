/- DropAt, WorstBus, DropsWithin, of the program. -/
import Derived.Test.YtpmkeagdoehbhaaDoorX1
namespace Go.Proofs.YtpmkeagdoehbhaaDoor
open Go.ChangeShapes Go.WideShapes Go.ChangeAt Go.RowKit

section
variable {nb : Nat} {ls : List L3} {ts : List Bool} {us : List U2} {os : List Int} {most : Int}
theorem okO_bs {bs : Int} (h : okO bs ls ts us os = true) : 1 ≤ bs ∧ bs ≤ 8 := okU_bs (radF_iff.1 (okO_iff.1 h).1).1
theorem dwi_good (h : okO (nb : Int) ls ts us os = true) : dwiF nb ls ts us os most = true ↔ godF nb ls ts us = true ∧ InTo (drpL ls ts us os nb) most nb := by
  rw [dwiF_iff, Int.toNat_natCast]
  exact ⟨fun h2 => ⟨h2.1, h2.2.2⟩, fun h2 => ⟨h2.1, (okO_iff.1 h).2, h2.2⟩⟩
theorem wrs_all (h : okO (nb : Int) ls ts us os = true) : wrsF nb ls ts us os = worstTo (drpL ls ts us os nb) nb := by rw [wrsF, if_pos h, Int.toNat_natCast]
theorem worstTo_bd (ds : List Int) (k : Nat) : -1 ≤ worstTo ds k ∧ worstTo ds k < k + 1 := by
  rcases worstTo_spec ds k with ⟨h, _⟩ | ⟨j, h, h2, _⟩ <;> omega
theorem greatTo_zero (ds : List Int) : greatTo ds 0 = -1 := rfl
theorem worstTo_zero (ds : List Int) : worstTo ds 0 = -1 := rfl
end

set_option maxRecDepth 100000 in
set_option maxHeartbeats 1000000 in
theorem dropAt_any (bs : Int) (A : Option Addr) (n c : Nat) (ls : List L3) (B : Option Addr) (m d : Nat) (ts : List Bool) (U : Option Addr) (q r : Nat) (us : List U2) (O : Option Addr) (p s : Nat) (os : List Int) (bus : Int) (w : World) (hn : n ≤ 1048576) (hr : RowL w A n ls) (hm : m ≤ 1048576) (hrt : RowT w B m ts) (hq : q ≤ 1048576) (hu : RowU w U q us) (hp : p ≤ 1048576) (hro : RowZ w O p os) :
    Calls Tryd.prog 8 #[.agg #[.int .i64 bs, .slice A n c], .slice B m d, .slice U q r, .slice O p s, .int .i64 bus] w fun e w' => e = .returned (.int .i64 (drpF bs ls ts us os bus)) ∧ Below w.heap.size w w' := by
  have HR := Lib.hid hr
  have HT := Lib.hid hrt
  have HU := Lib.hid hu
  have HRO := Lib.hid hro
  have b0 := below_bx w (.cells #[.int .i64 bs, .slice A n c] 25)
  clear hr hrt hu hro
  cases hok : okO bs ls ts us os
  · have E1 := Lib.hid (drpF_bad (bus := bus) hok)
    have HO := Lib.hid hok
    clear hok
    go_enter Tryd.func8, Tryd.ntmps8
    go_wp2_with fail
    refine (dropsOf_bad bs _ n c ls _ m d ts _ q r us _ p s os _ hn (HR.out.below b0) hm (HT.out.below b0) hq (HU.out.below b0) hp (HRO.out.below b0) HO.out).mono ?_
    rintro e w1 ⟨rfl, hb1⟩
    have a1 := b0.trans (hb1.mono b0.size)
    have hw := within_no bus
    go_wp2_with fail
    refine (within_any bus 0 (-1) _).mono ?_
    rintro e w2 ⟨rfl, rfl⟩
    rw [hw]
    go_wp2
    go_ret
    exact ⟨retI E1.out.symm, a1⟩
  · have hbs := okO_bs hok
    obtain ⟨nb, rfl⟩ := Int.eq_ofNat_of_zero_le (show 0 ≤ bs by omega)
    have HO := Lib.hid hok
    clear hok
    go_enter Tryd.func8, Tryd.ntmps8
    go_wp2_with fail
    refine (dropsOf_ok nb _ n c ls _ m d ts _ q r us _ p s os _ hn (HR.out.below b0) hm (HT.out.below b0) hq (HU.out.below b0) hp (HRO.out.below b0) HO.out).mono ?_
    rintro e w1 ⟨g, rfl, hD, hb1⟩
    have a1 := b0.trans (hb1.mono b0.size)
    have HD := Lib.hid hD
    have hwr : IntKind.i64.wrap ((nb : Int) - 1) = (nb : Int) - 1 := IntWalk.i64_in _ (by omega)
    clear hD
    cases hw : inB bus 0 ((nb : Int) - 1)
    · have E1 := Lib.hid (show drpF nb ls ts us os bus = -1 by rw [drpF, if_neg (by rw [hw]; simp)])
      go_wp2_with fail
      refine (within_any bus 0 _ _).mono ?_
      rintro e w2 ⟨rfl, rfl⟩
      rw [hw]
      clear hwr
      go_wp2
      go_ret
      exact ⟨retI E1.out.symm, a1⟩
    · have hw2 := hw
      simp only [inB, Bool.and_eq_true, decide_eq_true_eq] at hw2
      obtain ⟨k, rfl⟩ := Int.eq_ofNat_of_zero_le hw2.1
      have hk : k < nb := by omega
      have E1 := Lib.hid (drpF_at HO.out hk)
      obtain ⟨b, off, z, e9, hb, hkz, c0⟩ := HD.out.at_ hk
      injection e9 with e9
      injection e9 with e91 e92
      subst e91 e92
      rw [drpL_get hk] at hkz
      injection hkz with hkz
      subst hkz
      rw [Nat.zero_add] at c0
      have ii0 : (0 : Int) ≤ (k : Int) := by omega
      have ii1 : (k : Int) < (nb : Int) := by omega
      clear hw2
      generalize drpV ls ts us os nb k = Z at *
      go_wp2_with fail
      refine (within_any _ 0 _ _).mono ?_
      rintro e w2 ⟨rfl, rfl⟩
      rw [hw]
      clear hwr hw
      go_wp2
      go_ret
      exact ⟨retI E1.out.symm, a1⟩

set_option maxRecDepth 100000 in
set_option maxHeartbeats 1000000 in
theorem worstBus_any (bs : Int) (A : Option Addr) (n c : Nat) (ls : List L3) (B : Option Addr) (m d : Nat) (ts : List Bool) (U : Option Addr) (q r : Nat) (us : List U2) (O : Option Addr) (p s : Nat) (os : List Int) (w : World) (hn : n ≤ 1048576) (hr : RowL w A n ls) (hm : m ≤ 1048576) (hrt : RowT w B m ts) (hq : q ≤ 1048576) (hu : RowU w U q us) (hp : p ≤ 1048576) (hro : RowZ w O p os) :
    Calls Tryd.prog 15 #[.agg #[.int .i64 bs, .slice A n c], .slice B m d, .slice U q r, .slice O p s] w fun e w' => e = .returned (.int .i64 (wrsF bs ls ts us os)) ∧ Below w.heap.size w w' := by
  have HR := Lib.hid hr
  have HT := Lib.hid hrt
  have HU := Lib.hid hu
  have HRO := Lib.hid hro
  have b0 := below_bx w (.cells #[.int .i64 bs, .slice A n c] 25)
  clear hr hrt hu hro
  cases hok : okO bs ls ts us os
  · have E1 := Lib.hid (wrsF_bad hok)
    have HO := Lib.hid hok
    clear hok
    go_enter Tryd.func15, Tryd.ntmps15
    go_wp2_with fail
    refine (dropsOf_bad bs _ n c ls _ m d ts _ q r us _ p s os _ hn (HR.out.below b0) hm (HT.out.below b0) hq (HU.out.below b0) hp (HRO.out.below b0) HO.out).mono ?_
    rintro e w1 ⟨rfl, hb1⟩
    have a1 := b0.trans (hb1.mono b0.size)
    go_wp2
    go_loopw [9, 10, 19] (fun x y i wr => x = .int .i64 (-1) ∧ y = .int .i64 (-1) ∧ i = .int .i64 0 ∧ wr = w1) (fun _ _ _ _ => 0)
    case atStart => exact ⟨rfl, rfl, rfl, rfl⟩
    case round =>
      obtain ⟨rfl, rfl, rfl, rfl⟩ := hrel
      go_wp2
      go_ret
      exact ⟨retI E1.out.symm, a1⟩
  · have hbs := okO_bs hok
    obtain ⟨nb, rfl⟩ := Int.eq_ofNat_of_zero_le (show 0 ≤ bs by omega)
    have HO := Lib.hid hok
    have E1 := Lib.hid (wrs_all hok)
    have hnb : nb ≤ 8 := by omega
    clear hok
    go_enter Tryd.func15, Tryd.ntmps15
    go_wp2_with fail
    refine (dropsOf_ok nb _ n c ls _ m d ts _ q r us _ p s os _ hn (HR.out.below b0) hm (HT.out.below b0) hq (HU.out.below b0) hp (HRO.out.below b0) HO.out).mono ?_
    rintro e w1 ⟨g, rfl, hD, hb1⟩
    have a1 := b0.trans (hb1.mono b0.size)
    have HD := Lib.hid hD
    clear hD
    go_wp2
    go_loopw [9, 10, 19] (fun x y i wr => ∃ k : Nat, k ≤ nb ∧ x = .int .i64 (worstTo (drpL ls ts us os nb) k) ∧ y = .int .i64 (greatTo (drpL ls ts us os nb) k) ∧ i = .int .i64 k ∧ wr = w1) (fun _ _ i _ => nb - (intOf i).toNat)
    case atStart => exact ⟨0, by omega, rfl, rfl, rfl, rfl⟩
    case round =>
      obtain ⟨k, hk, rfl, rfl, rfl, rfl⟩ := hrel
      by_cases hlt : k < nb
      · obtain ⟨b, off, z, e9, hb, hkz, c0⟩ := HD.out.at_ hlt
        injection e9 with e9
        injection e9 with e91 e92
        subst e91 e92
        rw [Nat.zero_add] at c0
        have HV := Lib.hid (valAt_get hkz)
        have ii0 : (0 : Int) ≤ (k : Int) := by omega
        have ii1 : (k : Int) < (nb : Int) := by omega
        have HNX := Lib.hid (worst_next (drpL ls ts us os nb) k)
        rw [HV.out] at HNX
        clear hkz
        generalize hG : greatTo (drpL ls ts us os nb) k = GR at *
        generalize hW : worstTo (drpL ls ts us os nb) k = WR at *
        clear hG hW
        by_cases hgt : GR < z
        · have HA1 := Lib.hid (HNX.out.1 hgt)
          go_wp2
          go_roundw
          case rel => exact ⟨k + 1, by omega, by rw [HA1.out.1], by rw [HA1.out.2], by go_num, by trivial⟩
          case measure => simp [intOf]; omega
        · have HA1 := Lib.hid (HNX.out.2 hgt)
          go_wp2
          go_roundw
          case rel => exact ⟨k + 1, by omega, by rw [HA1.out.1], by rw [HA1.out.2], by go_num, by trivial⟩
          case measure => simp [intOf]; omega
      · obtain rfl : k = nb := by omega
        generalize worstTo (drpL ls ts us os k) k = WR at *
        generalize greatTo (drpL ls ts us os k) k = GR at *
        go_wp2
        go_ret
        exact ⟨retI E1.out.symm, a1⟩

set_option maxRecDepth 100000 in
set_option maxHeartbeats 1000000 in
theorem dropsWithin_any (bs : Int) (A : Option Addr) (n c : Nat) (ls : List L3) (B : Option Addr) (m d : Nat) (ts : List Bool) (U : Option Addr) (q r : Nat) (us : List U2) (O : Option Addr) (p s : Nat) (os : List Int) (most : Int) (w : World) (hn : n ≤ 1048576) (hr : RowL w A n ls) (hm : m ≤ 1048576) (hrt : RowT w B m ts) (hq : q ≤ 1048576) (hu : RowU w U q us) (hp : p ≤ 1048576) (hro : RowZ w O p os) :
    Calls Tryd.prog 18 #[.agg #[.int .i64 bs, .slice A n c], .slice B m d, .slice U q r, .slice O p s, .int .i64 most] w fun e w' => e = .returned (.bool (dwiF bs ls ts us os most)) ∧ Below w.heap.size w w' := by
  have HR := Lib.hid hr
  have HT := Lib.hid hrt
  have HU := Lib.hid hu
  have HRO := Lib.hid hro
  have b0 := below_bx w (.cells #[.int .i64 bs, .slice A n c] 25)
  have K0 := Lib.hid (IsBlk.new w 25 #[.int .i64 bs, .slice A n c])
  clear hr hrt hu hro
  cases hok : okO bs ls ts us os
  · have E1 := Lib.hid (dwiF_bad (most := most) hok)
    have HO := Lib.hid hok
    have hcmp : ∀ w : World, (binOp .eql 28 (.slice none 0 0) (.slice none 0 0)).run Tryd.prog w = .ok (.bool true) w := fun _ => by kernel_rfl
    clear hok
    go_enter Tryd.func18, Tryd.ntmps18
    go_wp2_with fail
    refine (dropsOf_bad bs _ n c ls _ m d ts _ q r us _ p s os _ hn (HR.out.below b0) hm (HT.out.below b0) hq (HU.out.below b0) hp (HRO.out.below b0) HO.out).mono ?_
    rintro e w1 ⟨rfl, hb1⟩
    have a1 := b0.trans (hb1.mono b0.size)
    go_wp2
    go_ret
    exact ⟨retB E1.out.symm, a1⟩
  · have hbs := okO_bs hok
    obtain ⟨nb, rfl⟩ := Int.eq_ofNat_of_zero_le (show 0 ≤ bs by omega)
    have HO := Lib.hid hok
    have HG := Lib.hid (dwi_good (most := most) hok)
    have hcmp : ∀ (g n : Nat) (w : World), (binOp .eql 28 (.slice (some ⟨g, 0, none⟩) n n) (.slice none 0 0)).run Tryd.prog w = .ok (.bool false) w := fun _ _ _ => by kernel_rfl
    clear hok
    go_enter Tryd.func18, Tryd.ntmps18
    go_wp2_with fail
    refine (dropsOf_ok nb _ n c ls _ m d ts _ q r us _ p s os _ hn (HR.out.below b0) hm (HT.out.below b0) hq (HU.out.below b0) hp (HRO.out.below b0) HO.out).mono ?_
    rintro e w1 ⟨g, rfl, hD, hb1⟩
    have a1 := b0.trans (hb1.mono b0.size)
    have HD := Lib.hid hD
    obtain ⟨p0, p1, _, _⟩ := (K0.out.keep hb1).two
    clear hD
    go_wp2_with fail
    refine (netGood_any nb _ n c ls _ m d ts _ q r us _ hn (HR.out.below a1) hm (HT.out.below a1) hq (HU.out.below a1)).mono ?_
    rintro e w2 ⟨rfl, hb2⟩
    have a2 := a1.trans (hb2.mono a1.size)
    have HD2 := Lib.hid (HD.out.below hb2)
    clear p0 p1
    cases hg : godF nb ls ts us
    · have E1 := Lib.hid (show dwiF nb ls ts us os most = false by rw [Bool.eq_false_iff]; intro h; have := (HG.out.1 h).1; rw [hg] at this; cases this)
      go_wp2
      go_ret
      exact ⟨retB E1.out.symm, a2⟩
    · have HG2 := Lib.hid (show dwiF nb ls ts us os most = true ↔ InTo (drpL ls ts us os nb) most nb by rw [HG.out]; exact ⟨fun h => h.2, fun h => ⟨hg, h⟩⟩)
      clear hg
      go_wp2
      go_loopw [30] (fun i wr => ∃ k : Nat, k ≤ nb ∧ i = .int .i64 k ∧ wr = w2 ∧ InTo (drpL ls ts us os nb) most k) (fun i _ => nb - (intOf i).toNat)
      case atStart => exact ⟨0, by omega, rfl, rfl, fun b hb => absurd hb (by omega)⟩
      case round =>
        obtain ⟨k, hk, rfl, rfl, hen⟩ := hrel
        have HEN := Lib.hid hen
        clear hen
        by_cases hlt : k < nb
        · obtain ⟨b, off, z, e9, hb, hkz, c0⟩ := HD2.out.at_ hlt
          injection e9 with e9
          injection e9 with e91 e92
          subst e91 e92
          rw [Nat.zero_add] at c0
          have HV := Lib.hid (valAt_get hkz)
          have ii0 : (0 : Int) ≤ (k : Int) := by omega
          have ii1 : (k : Int) < (nb : Int) := by omega
          clear hkz
          by_cases hz0 : 0 ≤ z
          · by_cases hgt : most < z
            · have HBAD := Lib.hid (show dwiF nb ls ts us os most = false by
                rw [Bool.eq_false_iff]
                intro h
                have := HG2.out.1 h k hlt (by rw [HV.out]; exact hz0)
                rw [HV.out] at this
                omega)
              go_wp2
              go_ret
              exact ⟨retB HBAD.out.symm, a2⟩
            · have HN := Lib.hid (inTo_next HEN.out (by rw [HV.out]; exact fun h => hgt h.2))
              go_wp2
              go_roundw
              case rel => exact ⟨k + 1, by omega, by go_num, by trivial, HN.out⟩
              case measure => simp [intOf]; omega
          · have HN := Lib.hid (inTo_next HEN.out (by rw [HV.out]; exact fun h => hz0 h.1))
            go_wp2
            go_roundw
            case rel => exact ⟨k + 1, by omega, by go_num, by trivial, HN.out⟩
            case measure => simp [intOf]; omega
        · obtain rfl : k = nb := by omega
          have HT2 := Lib.hid (HG2.out.2 HEN.out)
          go_wp2
          go_ret
          exact ⟨retB HT2.out.symm, a2⟩
end Go.Proofs.YtpmkeagdoehbhaaDoor
