/- RoomAt, of the model. -/
import Derived.Test.YtpmkeagdoehbhaaDoorX5
import Derived.Deep.RegionHeld3
namespace Go.Proofs.YtpmkeagdoehbhaaDoor
open Go.ChangeShapes Go.WideShapes Go.ChangeAt Go.RowKit

section
variable {bs : Int} {nb : Nat} {ls : List L3} {ts : List Bool} {us : List U2} {os : List Int} {most bus : Int} {b : Nat}
theorem roo_fby (h : fbyF bs ls ts us bus < 0) : rooF bs ls ts us os most bus = -1 := by
  rw [rooF, if_neg]
  rintro ⟨h1, h2, h3⟩
  have hrad := (okO_iff.1 (dwiF_ok h1)).1
  obtain ⟨hok, _, ho⟩ := radF_iff.1 hrad
  obtain ⟨f, hf, hc⟩ := fedB_iff.1 h3
  have hbs := okU_bs hok
  rw [fbyF, if_pos ⟨hrad, h2⟩, feedOf_some ho hf hc (by have := busesOk_len (okU_bu hok); omega)] at h
  omega
theorem okO_more (h : okO (nb : Int) ls ts us os = true) (hb : b < us.length) {r : Int} (h0 : 0 ≤ r) (h1 : ld us b + r ≤ 999) : okO (nb : Int) ls ts (moreU us b r) os = true :=
  okO_iff.2 ⟨moreU_rad (okO_iff.1 h).1 hb h0 h1, (okO_iff.1 h).2⟩
end
theorem l8WithR (U : Option Addr) (q r : Nat) (us : List U2) (k : Nat) (more : Int) (w : World) (hq : q ≤ 1048576) (hu : RowU w U q us) (hk : k < q) (h0 : 0 ≤ ld us k ∧ ld us k ≤ 999) (h1 : 0 ≤ more ∧ more ≤ 1000) :
    Calls Tryd.prog 47 #[.slice U q r, .int .i64 (k : Int), .int .i64 more] w fun e w' => ∃ A' c', e = .returned (.slice A' q c') ∧ RowU w' A' q (moreU us k more) ∧ Below w.heap.size w w' := by
  refine (l8With_any U q r us k more w hq hu hk h0 h1).mono ?_
  rintro e w' ⟨v, rfl, hO, hb⟩
  obtain ⟨A', c', rfl, hU⟩ := hO.row
  rw [moreU_len, hu.len] at hU ⊢
  exact ⟨A', c', rfl, hU, hb⟩

set_option linter.unusedSimpArgs false in
set_option maxRecDepth 100000 in
set_option maxHeartbeats 4000000 in
theorem specRoomAt_any (bs : Int) (A : Option Addr) (n c : Nat) (ls : List L3) (B : Option Addr) (m d : Nat) (ts : List Bool) (U : Option Addr) (q r : Nat) (us : List U2) (O : Option Addr) (p s : Nat) (os : List Int) (most bus : Int) (w : World) (hn : n ≤ 1048576) (hr : RowL w A n ls) (hm : m ≤ 1048576) (hrt : RowT w B m ts) (hq : q ≤ 1048576) (hu : RowU w U q us) (hp : p ≤ 1048576) (hro : RowZ w O p os) :
    Calls Tryd.prog 24 #[.agg #[.int .i64 bs, .slice A n c], .slice B m d, .slice U q r, .slice O p s, .int .i64 most, .int .i64 bus] w fun e w' => e = .returned (.int .i64 (rooF bs ls ts us os most bus)) ∧ Below w.heap.size w w' := by
  have b0 := below_bx w (.cells #[.int .i64 bs, .slice A n c] 25)
  have K0 := Lib.hid (IsBlk.new w 25 #[.int .i64 bs, .slice A n c])
  have HR := Lib.hid hr
  have HT := Lib.hid hrt
  have HU := Lib.hid hu
  have HRO := Lib.hid hro
  clear hr hrt hu hro
  go_enter Tryd.func24, Tryd.ntmps24
  go_wp2_with fail
  refine (specDropsWithin_any bs _ n c ls _ m d ts _ q r us _ p s os most _ hn (HR.out.below b0) hm (HT.out.below b0) hq (HU.out.below b0) hp (HRO.out.below b0)).mono ?_
  rintro e w1 ⟨rfl, hb1⟩
  have a1 := b0.trans (hb1.mono b0.size)
  have K1 := Lib.hid (K0.out.keep hb1)
  obtain ⟨p0, p1, _, _⟩ := K1.out.two
  cases hd : dwiF bs ls ts us os most
  · have E1 := Lib.hid (show rooF bs ls ts us os most bus = -1 by rw [rooF, if_neg (by rw [hd]; simp)])
    clear hd
    go_wp2
    go_ret
    exact ⟨retI E1.out.symm, a1⟩
  · have HD := Lib.hid hd
    clear hd
    go_wp2_with fail
    refine (specFedBy_any bs _ n c ls _ m d ts _ q r us bus _ hn (HR.out.below a1) hm (HT.out.below a1) hq (HU.out.below a1)).mono ?_
    rintro e w2 ⟨rfl, hb2⟩
    have a2 := a1.trans (hb2.mono a1.size)
    have K2 := Lib.hid (K1.out.keep hb2)
    clear p0 p1
    by_cases hneg : fbyF bs ls ts us bus < 0
    · have E1 := Lib.hid (roo_fby (os := os) (most := most) hneg)
      generalize fbyF bs ls ts us bus = D at *
      go_wp2
      go_ret
      exact ⟨retI E1.out.symm, a2⟩
    · obtain ⟨_, hin, hf⟩ := fbyF_pos hneg
      have hok := dwiF_ok HD.out
      have hbs := okO_bs hok
      obtain ⟨nb, rfl⟩ := Int.eq_ofNat_of_zero_le (show 0 ≤ bs by omega)
      have hin2 := hin
      simp only [inB, Bool.and_eq_true, decide_eq_true_eq] at hin2
      obtain ⟨k, rfl⟩ := Int.eq_ofNat_of_zero_le hin2.1
      have hk : k < nb := by omega
      have HOK := Lib.hid hok
      have E1 := Lib.hid (roo_at HD.out hk hf)
      have HBU := Lib.hid (okU_bu (radF_iff.1 (okO_iff.1 hok).1).1)
      have hqn : q = nb := by have := busesOk_len HBU.out; have := HU.out.len; omega
      subst hqn
      have HUL := Lib.hid HU.out.len
      have hq8 : q ≤ 8 := by omega
      have hld := ld_bd HBU.out k
      obtain ⟨N, hN⟩ := Int.eq_ofNat_of_zero_le (show 0 ≤ 999 - ld us k by omega)
      have HNN := Lib.hid (show (999 - ld us k).toNat = N by rw [hN]; rfl)
      have ii0 : (0 : Int) ≤ (k : Int) := by omega
      have ii1 : (k : Int) < (q : Int) := by omega
      generalize fbyF (q : Int) ls ts us (k : Int) = D at *
      clear hin hin2 hf hok hbs
      go_wp2
      go_loopw [13] (fun i wr => ∃ rr : Nat, rr ≤ N ∧ i = .int .i64 rr ∧ Below w2.heap.size w2 wr ∧ ∀ j, j < rr → roomB q ls ts us os most k j = true) (fun i _ => N - (intOf i).toNat)
      case atStart => exact ⟨0, by omega, rfl, Below.refl _ _, fun j hj => absurd hj (by omega)⟩
      case round =>
        obtain ⟨rr, hrr, rfl, hbel, hall⟩ := hrel
        have HALL := Lib.hid hall
        have hbw := a2.trans (hbel.mono a2.size)
        have K3 := Lib.hid (K2.out.keep hbel)
        obtain ⟨p0, p1, _, _⟩ := K3.out.two
        have hXl := K3.out.lt
        obtain ⟨b', off', u, rfl, hb', hku, _, g1⟩ := (HU.out.below hbw).at_ hk
        have HLD := Lib.hid (ld_at hku)
        rw [HLD.out] at hld hN
        clear hall hku
        by_cases hlt : rr < N
        · have HLE := Lib.hid (show ld us k + ((rr : Int) + 1) ≤ 999 by rw [HLD.out]; omega)
          have CW := Lib.hid (fun (W : World) (hW : Below w2.heap.size w2 W) => l8WithR (some ⟨b', off', none⟩) q r us k ((rr : Int) + 1) W hq (HU.out.below (a2.trans (hW.mono a2.size))) hk (by rw [HLD.out]; exact hld) ⟨by omega, by omega⟩)
          have CI := Lib.hid (fun (W : World) (hW : Below w2.heap.size w2 W) (A5 : Option Addr) (c5 : Nat) (hU5 : RowU W A5 q (moreU us k ((rr : Int) + 1))) => l8Within_any q A n c ls B m d ts A5 q c5 (moreU us k ((rr : Int) + 1)) O p s os most W hn (HR.out.below (a2.trans (hW.mono a2.size))) hm (HT.out.below (a2.trans (hW.mono a2.size))) hq hU5 (HRO.out.below (a2.trans (hW.mono a2.size))) (okO_more HOK.out (by have := HUL.out; omega) (by omega) HLE.out))
          have HRB := Lib.hid (show roomB q ls ts us os most k rr = dwiF q ls ts (moreU us k ((rr : Int) + 1)) os most from rfl)
          have hdec : decide (u.2 + (rr : Int) < 999) = true := by simp; omega
          have hw1 : IntKind.i64.wrap (u.2 + (rr : Int)) = u.2 + (rr : Int) := IntWalk.i64_in _ (by omega)
          have hw2 : IntKind.i64.wrap ((rr : Int) + 1) = (rr : Int) + 1 := IntWalk.i64_in _ (by omega)
          go_wp2
          go_region_held3 (fun w' => Below w2.heap.size w2 w' ∧ w'.cell? ⟨w.heap.size, 0, none⟩ = some (.int .i64 (q : Int)) ∧ w'.cell? ⟨w.heap.size, 1, none⟩ = some (.slice A n c) ∧ w'.cell? ⟨b', off' + k * 2 + 1, none⟩ = some (.int .i64 u.2))
            (first | exact holdG p0 p1 hXl g1 hb' hbel hB6 | exact holdG p0 p1 hXl g1 hb' hbel hB5 | exact holdG p0 p1 hXl g1 hb' hbel (Below.refl _ _) | exact holdG p0 p1 hXl g1 hb' hbel (Below.drew (Below.refl _ _)))
            (first
              | (go_at_call 47; (with_reducible refine (CW.out _ (And.left (by assumption))).mono ?_); rintro e w5 ⟨A5, c5, rfl, hU5, hb5⟩; have hB5 : Below wr.heap.size wr w5 := (Below.drew (Below.refl _ _)).trans hb5)
              | (go_at_call 39; (with_reducible refine (CI.out _ (hbel.trans (hB5.mono hbel.size)) A5 c5 hU5).mono ?_); rintro e w6 ⟨rfl, hb6⟩; rw [← HRB.out]; have hB6 : Below wr.heap.size wr w6 := hB5.trans (hb6.mono hB5.size)))
          clear hw1 hw2
          cases hrb : roomB q ls ts us os most k rr
          · have HE := Lib.hid (roomN_at HBU.out (by have := HUL.out; omega) (by rw [HNN.out]; omega) HALL.out (fun _ => hrb))
            clear hrb
            go_wp2
            go_ret
            exact ⟨retI (by rw [E1.out, HE.out]), hbw.trans (hB6.mono hbw.size)⟩
          · have HN2 := Lib.hid (show ∀ j, j < rr + 1 → roomB q ls ts us os most k j = true from fun j hj => by
              by_cases e : j = rr
              · subst e; exact hrb
              · exact HALL.out j (by omega))
            clear hrb
            go_wp2
            go_roundw
            case rel => exact ⟨rr + 1, by omega, by go_num, hbel.trans (hB6.mono hbel.size), HN2.out⟩
            case measure => simp [intOf]; omega
        · obtain rfl : rr = N := by omega
          have HE := Lib.hid (roomN_at HBU.out (by have := HUL.out; omega) (by rw [HNN.out]; exact Nat.le_refl _) HALL.out (fun h => absurd h (by rw [HNN.out]; omega)))
          have hdec : decide (u.2 + (rr : Int) < 999) = false := by simp; omega
          have hw1 : IntKind.i64.wrap (u.2 + (rr : Int)) = u.2 + (rr : Int) := IntWalk.i64_in _ (by omega)
          go_wp2
          go_quiet (fail)
          go_wp2
          go_ret
          exact ⟨retI (by rw [E1.out, HE.out]), below_drewN hbw _⟩
end Go.Proofs.YtpmkeagdoehbhaaDoor
