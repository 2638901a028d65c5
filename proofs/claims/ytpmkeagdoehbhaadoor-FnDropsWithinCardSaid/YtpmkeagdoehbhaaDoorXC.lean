/- FnDropsWithin: the walk. -/
import Derived.Test.YtpmkeagdoehbhaaDoorX9
import Derived.Test.YtpmkeagdoehbhaaDoorBCD
namespace Go.Proofs.YtpmkeagdoehbhaaDoor
open Go.ChangeShapes Go.WideShapes Go.ChangeAt Go.RowKit

set_option maxRecDepth 100000 in
set_option maxHeartbeats 8000000 in
theorem dropsWithinL_walk (w : World) (A : Option Addr) (n c : Nat) (code : List Int) (hr : RowB w A n code) (hnc : n ≤ c) (hc : c ≤ 9223372036854775807) :
    Calls Tryd.prog 5 #[.slice A n c] w fun e w' => e = .returned (.bool true) ∧ Below w.heap.size w w' := by
  by_cases hlen : n ≤ 1048576
  · go_enter Tryd.func5, Tryd.ntmps5
    go_wp2_with fail
    refine (drawDropsWithin_any A n c code _ hr hnc hc).mono ?_
    rintro e w1 ⟨bs, A1, c1, ls, A2, c2, ts, A3, c3, us, A4, c4, os, most, rfl, hrows, hm0, hm1⟩
    obtain ⟨hs1, h1, h2, h3, h4⟩ := lawSo_start (c1 := c1) hrows
    have S1 := Lib.hid hs1
    clear hs1 hr hrows
    go_wp2_with fail
    refine (dropsWithin_any bs A1 ls.length c1 ls A2 ts.length c2 ts A3 us.length c3 us A4 os.length c4 os most _ h1 S1.out.row h2 S1.out.tr h3 S1.out.bu h4 S1.out.oh).mono ?_
    rintro e w2 ⟨rfl, hb2⟩
    have S2 := Lib.hid (S1.out.next hb2)
    obtain ⟨p0, p1, _, _⟩ := S2.out.net.two
    clear S1 hb2
    generalize w1.heap.size = X at *
    go_wp2_with fail
    refine (specDropsWithin_any bs A1 ls.length c1 ls A2 ts.length c2 ts A3 us.length c3 us A4 os.length c4 os most _ h1 S2.out.row h2 S2.out.tr h3 S2.out.bu h4 S2.out.oh).mono ?_
    rintro e w3 ⟨rfl, hb3⟩
    have S3 := Lib.hid (S2.out.next hb3)
    clear S2 hb3 p0 p1
    obtain ⟨p0, p1, _, _⟩ := S3.out.net.two
    cases hx : dwiF bs ls ts us os most
    · go_wp2_with fail
      refine (alive_any _).mono ?_
      rintro e w6 ⟨rfl, hb6⟩
      go_wp2
      go_ret
      exact ⟨rfl, S3.out.bel.trans (hb6.mono S3.out.bel.size)⟩
    · have ho := (radF_iff.1 (okO_iff.1 (dwiF_ok hx)).1).1
      have hbs := okU_bs ho
      obtain ⟨nb, rfl⟩ := Int.eq_ofNat_of_zero_le (show 0 ≤ bs by omega)
      have HST := Lib.hid (okU_st ho)
      have HOFF := Lib.hid (fun (j : Nat) => dwi_off hx j)
      have HWI := Lib.hid (dwi_wide hx)
      have HGD := Lib.hid (dwiF_iff.1 hx).1
      have hw1 : IntKind.i64.wrap (most + 1) = most + 1 := IntWalk.i64_in _ (by omega)
      clear ho hx hbs
      go_wp2
      go_loopw [9] (fun i wr => ∃ k : Nat, k ≤ ts.length ∧ i = .int .i64 k ∧ Below w3.heap.size w3 wr) (fun i _ => ts.length - (intOf i).toNat)
      case atStart => exact ⟨0, by omega, rfl, Below.refl _ _⟩
      case round =>
        obtain ⟨k, hk, rfl, hbel⟩ := hrel
        have S5 := Lib.hid (S3.out.next hbel)
        clear p0 p1
        obtain ⟨p0, p1, _, _⟩ := S5.out.net.two
        by_cases hlt : k < ts.length
        · have HOK := Lib.hid (HOFF.out k)
          have hs := HST.out
          go_wp2_with fail
          refine (offOn_any nb A1 ls.length c1 ls A2 ts.length c2 ts k _ h1 S5.out.row h2 S5.out.tr).mono ?_
          rintro e w6 ⟨va, vb, rfl, hOa, hOb, hb6⟩
          rw [swV_at hlt hs] at hOa hOb
          have S6 := Lib.hid (S5.out.next hb6)
          obtain ⟨Aa, ca, rfl, _, hTa⟩ := hOa.row
          obtain ⟨Ab, cb, rfl, _, hTb⟩ := hOb.row
          rw [List.length_set] at hTa hTb ⊢
          rw [List.length_set]
          have Q6 := Lib.hid hTa
          have hbel6 := hbel.trans (hb6.mono hbel.size)
          clear hTa hTb hOa hOb p0 p1 hs
          obtain ⟨p0, p1, _, _⟩ := S6.out.net.two
          go_wp2_with fail
          refine (dropsWithin_any nb A1 ls.length c1 ls Aa ts.length ca (ts.set k false) A3 us.length c3 us A4 os.length c4 os most _ h1 S6.out.row h2 Q6.out h3 S6.out.bu h4 S6.out.oh).mono ?_
          rintro e w7 ⟨rfl, hb7⟩
          rw [HOK.out]
          clear p0 p1
          go_wp2
          go_roundw
          case rel => exact ⟨k + 1, by omega, by go_num, hbel6.trans (hb7.mono hbel6.size)⟩
          case measure => simp [intOf]; omega
        · go_wp2_with fail
          refine (dropsWithin_any nb A1 ls.length c1 ls A2 ts.length c2 ts A3 us.length c3 us A4 os.length c4 os (most + 1) _ h1 S5.out.row h2 S5.out.tr h3 S5.out.bu h4 S5.out.oh).mono ?_
          rintro e w6 ⟨rfl, hb6⟩
          rw [HWI.out]
          have S6 := Lib.hid (S5.out.next hb6)
          clear p0 p1
          obtain ⟨p0, p1, _, _⟩ := S6.out.net.two
          go_wp2_with fail
          refine (netGood_any nb A1 ls.length c1 ls A2 ts.length c2 ts A3 us.length c3 us _ h1 S6.out.row h2 S6.out.tr h3 S6.out.bu).mono ?_
          rintro e w7 ⟨rfl, hb7⟩
          rw [HGD.out]
          go_wp2
          go_ret
          exact ⟨rfl, S6.out.bel.trans (hb7.mono S6.out.bel.size)⟩
  · have hl2 : (1048576 : Int) < (n : Int) := by omega
    go_enter Tryd.func5, Tryd.ntmps5
    go_wp2
    go_ret
    exact ⟨rfl, Below.refl _ _⟩
end Go.Proofs.YtpmkeagdoehbhaaDoor
