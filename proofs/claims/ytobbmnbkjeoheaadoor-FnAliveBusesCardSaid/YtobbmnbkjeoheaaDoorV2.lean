/- BusesValid, of the program and of the model; what the model's chapter 5 asks of its arguments. -/
import Derived.Test.YtobbmnbkjeoheaaDoorA2
import Derived.Test.YtobbmnbkjeoheaaDoorB2
import Derived.Test.YtobbmnbkjeoheaaDoorV0
namespace Go.Proofs.YtobbmnbkjeoheaaDoor
open Go.ChangeShapes Go.WideShapes Go.ChangeAt Go.RowKit

theorem busesOk_no {bs : Int} {ls : List L3} {us : List U2} {k : Nat} {u : U2} (hk : us[k]? = some u) (h : busOk u = false) : busesOk bs ls us = false := by
  simp [busesOk, all_stop hk h]

set_option maxRecDepth 100000 in
theorem busesValid_any (bs : Int) (A : Option Addr) (n c : Nat) (ls : List L3) (U : Option Addr) (m d : Nat) (us : List U2) (w : World) (hn : n ≤ 1048576) (hr : RowL w A n ls) (hm : m ≤ 1048576) (hu : RowU w U m us) :
    Calls Tryd.prog 9 #[.agg #[.int .i64 bs, .slice A n c], .slice U m d] w fun e w' => e = .returned (.bool (busesOk bs ls us)) ∧ Below w.heap.size w w' := by
  have HR := Lib.hid hr
  have HU := Lib.hid hu
  have HL := Lib.hid hu.len
  clear hr hu
  by_cases hv : netOk bs ls = true
  · have HV := Lib.hid hv
    have hbs := netOk_len hv
    by_cases hmb : (m : Int) = bs
    · subst hmb
      have hm8 : m ≤ 8 := by omega
      clear hv hbs
      go_enter Tryd.func9, Tryd.ntmps9
      go_wp2_with fail
      refine (netValid_any m _ n c ls _ hn (HR.out.below (below_bx w _))).mono ?_
      rintro e w1 ⟨rfl, hb1⟩
      rw [HV.out]
      have a1 : Below w.heap.size w w1 := (below_bx w _).trans (hb1.mono (by simp))
      obtain ⟨p0, p1, _, _⟩ := ((IsBlk.new w 25 #[.int .i64 (m : Int), .slice A n c]).keep hb1).two
      go_wp2
      go_loopw [19] (fun i wr => ∃ k : Nat, k ≤ m ∧ i = .int .i64 k ∧ (∀ j, j < k → ∀ u, us[j]? = some u → busOk u = true) ∧ Below w.heap.size w wr) (fun i _ => m - (intOf i).toNat)
      case atStart => exact ⟨0, by omega, rfl, by intro j hj; omega, a1⟩
      case round =>
        obtain ⟨k, hk, rfl, hgood, hbel⟩ := hrel
        have HG := Lib.hid hgood
        clear hgood
        by_cases hlt : k < m
        · obtain ⟨b, off, u, rfl, hb, hku, g0, g1⟩ := HU.out.at_ hlt
          rw [← hbel.cell (p := ⟨b, off + k * 2, none⟩) hb] at g0
          rw [← hbel.cell (p := ⟨b, off + k * 2 + 1, none⟩) hb] at g1
          have HK := Lib.hid hku
          clear hku
          obtain ⟨x, y⟩ := u
          simp only at g0 g1
          have a2 : ∀ o, Below w.heap.size w (wr.alloc o) := fun o => hbel.alloc hbel.size _
          cases hx : inB x 0 999
          · have HF := Lib.hid (show busesOk m ls us = false from busesOk_no HK.out (by simp [busOk, hx]))
            go_wp2_with fail
            refine (within_any x 0 999 _).mono ?_
            rintro e w2 ⟨rfl, rfl⟩
            rw [hx]
            go_wp2
            go_ret
            exact ⟨retB HF.out.symm, a2 _⟩
          · cases hy : inB y 0 999
            · have HF := Lib.hid (show busesOk m ls us = false from busesOk_no HK.out (by simp [busOk, hy]))
              go_wp2_with fail
              refine (within_any x 0 999 _).mono ?_
              rintro e w2 ⟨rfl, rfl⟩
              rw [hx]
              go_wp2_with fail
              refine (within_any y 0 999 _).mono ?_
              rintro e w2 ⟨rfl, rfl⟩
              rw [hy]
              go_wp2
              go_ret
              exact ⟨retB HF.out.symm, a2 _⟩
            · have hb2 : busOk (x, y) = true := by simp [busOk, hx, hy]
              have HB2 := Lib.hid hb2
              clear hb2
              go_wp2_with fail
              refine (within_any x 0 999 _).mono ?_
              rintro e w2 ⟨rfl, rfl⟩
              rw [hx]
              go_wp2_with fail
              refine (within_any y 0 999 _).mono ?_
              rintro e w2 ⟨rfl, rfl⟩
              rw [hy]
              go_wp2
              go_roundw
              case rel => exact ⟨k + 1, by omega, by go_num, upto_succ HG.out HK.out HB2.out, a2 _⟩
              case measure => simp [intOf]; omega
        · go_wp2
          go_ret
          obtain rfl : k = m := by omega
          refine ⟨retB ?_, hbel⟩
          simp [busesOk, HV.out, HL.out, all_of HL.out HG.out]
    · have hne : ((m : Int) == bs) = false := by simpa using hmb
      have HF := Lib.hid (show busesOk bs ls us = false by simp [busesOk, HL.out, hmb])
      clear hmb hv hbs
      go_enter Tryd.func9, Tryd.ntmps9
      go_wp2_with fail
      refine (netValid_any bs _ n c ls _ hn (HR.out.below (below_bx w _))).mono ?_
      rintro e w1 ⟨rfl, hb1⟩
      rw [HV.out]
      obtain ⟨p0, p1, _, _⟩ := ((IsBlk.new w 25 #[.int .i64 bs, .slice A n c]).keep hb1).two
      go_wp2
      go_ret
      exact ⟨retB HF.out.symm, (below_bx w _).trans (hb1.mono (by simp))⟩
  · rw [Bool.not_eq_true] at hv
    have HV := Lib.hid hv
    have HF := Lib.hid (show busesOk bs ls us = false by simp [busesOk, hv])
    clear hv
    go_enter Tryd.func9, Tryd.ntmps9
    go_wp2_with fail
    refine (netValid_any bs _ n c ls _ hn (HR.out.below (below_bx w _))).mono ?_
    rintro e w1 ⟨rfl, hb1⟩
    rw [HV.out]
    go_wp2
    go_ret
    exact ⟨retB HF.out.symm, (below_bx w _).trans (hb1.mono (by simp))⟩

set_option maxRecDepth 100000 in
theorem specBusesValid_any (bs : Int) (A : Option Addr) (n c : Nat) (ls : List L3) (U : Option Addr) (m d : Nat) (us : List U2) (w : World) (hn : n ≤ 1048576) (hr : RowL w A n ls) (hm : m ≤ 1048576) (hu : RowU w U m us) :
    Calls Tryd.prog 10 #[.agg #[.int .i64 bs, .slice A n c], .slice U m d] w fun e w' => e = .returned (.bool (busesOk bs ls us)) ∧ Below w.heap.size w w' := by
  have HR := Lib.hid hr
  have HU := Lib.hid hu
  have HL := Lib.hid hu.len
  clear hr hu
  go_enter Tryd.func10, Tryd.ntmps10
  go_wp2
  go_loopw [5] (fun i wr => ∃ k : Nat, k ≤ m ∧ i = .int .i64 k ∧ (∀ j, j < k → ∀ u, us[j]? = some u → busOk u = true) ∧ Below w.heap.size w wr ∧ IsBlk wr w.heap.size 25 #[.int .i64 bs, .slice A n c]) (fun i _ => m - (intOf i).toNat)
  case atStart => exact ⟨0, by omega, rfl, by intro j hj; omega, below_bx _ _, IsBlk.new w _ _⟩
  case round =>
    obtain ⟨k, hk, rfl, hgood, hbel, hbox⟩ := hrel
    have HG := Lib.hid hgood
    have HB := Lib.hid hbox
    clear hgood hbox
    by_cases hlt : k < m
    · obtain ⟨b, off, u, rfl, hb, hku, g0, g1⟩ := HU.out.at_ hlt
      rw [← hbel.cell (p := ⟨b, off + k * 2, none⟩) hb] at g0
      rw [← hbel.cell (p := ⟨b, off + k * 2 + 1, none⟩) hb] at g1
      have HK := Lib.hid hku
      clear hku
      obtain ⟨x, y⟩ := u
      simp only at g0 g1
      cases hx : inB x 0 999
      · have HF := Lib.hid (show busesOk bs ls us = false from busesOk_no HK.out (by simp [busOk, hx]))
        go_wp2_with fail
        refine (l1In_any x 0 999 _).mono ?_
        rintro e w2 ⟨rfl, rfl⟩
        rw [hx]
        go_wp2
        go_ret
        exact ⟨retB HF.out.symm, hbel⟩
      · cases hy : inB y 0 999
        · have HF := Lib.hid (show busesOk bs ls us = false from busesOk_no HK.out (by simp [busOk, hy]))
          go_wp2_with fail
          refine (l1In_any x 0 999 _).mono ?_
          rintro e w2 ⟨rfl, rfl⟩
          rw [hx]
          go_wp2_with fail
          refine (l1In_any y 0 999 _).mono ?_
          rintro e w2 ⟨rfl, rfl⟩
          rw [hy]
          go_wp2
          go_ret
          exact ⟨retB HF.out.symm, hbel⟩
        · have hb2 : busOk (x, y) = true := by simp [busOk, hx, hy]
          have HB2 := Lib.hid hb2
          clear hb2
          go_wp2_with fail
          refine (l1In_any x 0 999 _).mono ?_
          rintro e w2 ⟨rfl, rfl⟩
          rw [hx]
          go_wp2_with fail
          refine (l1In_any y 0 999 _).mono ?_
          rintro e w2 ⟨rfl, rfl⟩
          rw [hy]
          go_wp2
          go_roundw
          case rel => exact ⟨k + 1, by omega, by go_num, upto_succ HG.out HK.out HB2.out, hbel, HB.out⟩
          case measure => simp [intOf]; omega
    · obtain rfl : k = m := by omega
      have HA := Lib.hid (all_of HL.out HG.out)
      obtain ⟨p0, p1, _, _⟩ := HB.out.two
      go_wp2_with fail
      refine (specNetValid_any bs _ n c ls _ hn (HR.out.below hbel)).mono ?_
      rintro e w1 ⟨rfl, hb1⟩
      have a1 : Below w.heap.size w w1 := hbel.trans (hb1.mono hbel.size)
      clear p0 p1
      obtain ⟨p0, p1, _, _⟩ := (HB.out.keep hb1).two
      cases hv : netOk bs ls
      · have HF := Lib.hid (show busesOk bs ls us = false by simp [busesOk, hv])
        go_wp2
        go_ret
        exact ⟨retB HF.out.symm, a1⟩
      · have HF := Lib.hid (show busesOk bs ls us = ((k : Int) == bs) by simp [busesOk, hv, HL.out, HA.out]; rfl)
        go_wp2
        go_ret
        exact ⟨retB HF.out.symm, a1⟩

set_option maxRecDepth 100000 in
theorem l5Ok_any (bs : Int) (A : Option Addr) (n c : Nat) (ls : List L3) (B : Option Addr) (mt dt : Nat) (U : Option Addr) (m d : Nat) (us : List U2) (w : World) (hn : n ≤ 1048576) (hr : RowL w A n ls) (hmt : mt ≤ 1048576) (hm : m ≤ 1048576) (hu : RowU w U m us) :
    Calls Tryd.prog 46 #[.agg #[.int .i64 bs, .slice A n c], .slice B mt dt, .slice U m d] w fun e w' => e = .returned (.bool (okU bs ls mt us)) ∧ Below w.heap.size w w' := by
  have HR := Lib.hid hr
  have HU := Lib.hid hu
  clear hr hu
  go_enter Tryd.func46, Tryd.ntmps46
  go_wp2_with fail
  refine (specStateValid_any bs _ n c ls _ mt dt _ hn (HR.out.below (below_bx w _)) (by omega)).mono ?_
  rintro e w1 ⟨rfl, hb1⟩
  have a1 : Below w.heap.size w w1 := (below_bx w _).trans (hb1.mono (by simp))
  obtain ⟨p0, p1, _, _⟩ := ((IsBlk.new w 25 #[.int .i64 bs, .slice A n c]).keep hb1).two
  cases hs : stOk bs ls mt
  · have HF := Lib.hid (show okU bs ls mt us = false by simp [okU, hs])
    go_wp2
    go_ret
    exact ⟨retB HF.out.symm, a1⟩
  · have HF := Lib.hid (show okU bs ls mt us = busesOk bs ls us by simp [okU, hs])
    go_wp2_with fail
    refine (specBusesValid_any bs _ n c ls _ m d us _ hn (HR.out.below a1) hm (HU.out.below a1)).mono ?_
    rintro e w2 ⟨rfl, hb2⟩
    rw [← HF.out]
    go_wp2
    go_ret
    exact ⟨rfl, a1.trans (hb2.mono a1.size)⟩
end Go.Proofs.YtobbmnbkjeoheaaDoor
