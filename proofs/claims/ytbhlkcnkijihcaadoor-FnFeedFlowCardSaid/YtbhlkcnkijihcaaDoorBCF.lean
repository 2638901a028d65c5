/- Texts joined: BusesValid, of the program and of the model; what the model's chapter 5 asks of its arguments; The sums of the islands, of the program; IslandFeed and IslandLoad, of the program; AliveBuses and ServedLoad, of the program. -/
import Derived.Test.YtbhlkcnkijihcaaDoorBCA
import Derived.Test.YtbhlkcnkijihcaaDoorBPC
import Derived.Test.YtbhlkcnkijihcaaDoorBCD

/- BusesValid, of the program and of the model; what the model's chapter 5 asks of its arguments. -/
namespace Go.Proofs.YtbhlkcnkijihcaaDoor
open Go.ChangeShapes Go.WideShapes Go.ChangeAt Go.RowKit

theorem busesOk_no {bs : Int} {ls : List L3} {us : List U2} {k : Nat} {u : U2} (hk : us[k]? = some u) (h : busOk u = false) : busesOk bs ls us = false := by
  simp [busesOk, all_stop hk h]

set_option maxRecDepth 100000 in
theorem busesValid_any (bs : Int) (A : Option Addr) (n c : Nat) (ls : List L3) (U : Option Addr) (m d : Nat) (us : List U2) (w : World) (hn : n ≤ 1048576) (hr : RowL w A n ls) (hm : m ≤ 1048576) (hu : RowU w U m us) :
    Calls Tryd.prog 53 #[.agg #[.int .i64 bs, .slice A n c], .slice U m d] w fun e w' => e = .returned (.bool (busesOk bs ls us)) ∧ Below w.heap.size w w' := by
  have HR := Lib.hid hr
  have HU := Lib.hid hu
  have HL := Lib.hid hu.len
  clear hr hu
  by_cases hv : netOk bs ls = true
  · have HV := Lib.hid hv
    have hbs := netOk_len hv
    by_cases hmb : (m : Int) = bs
    · subst hmb
      have hm8 : m ≤ 8 := by omega
      clear hv hbs
      go_enter Tryd.func53, Tryd.ntmps53
      go_wp2_with fail
      refine (netValid_any m _ n c ls _ hn (HR.out.below (below_bx w _))).mono ?_
      rintro e w1 ⟨rfl, hb1⟩
      rw [HV.out]
      have a1 : Below w.heap.size w w1 := (below_bx w _).trans (hb1.mono (by simp))
      obtain ⟨p0, p1, _, _⟩ := ((IsBlk.new w 25 #[.int .i64 (m : Int), .slice A n c]).keep hb1).two
      go_wp2
      go_loopw [19] (fun i wr => ∃ k : Nat, k ≤ m ∧ i = .int .i64 k ∧ (∀ j, j < k → ∀ u, us[j]? = some u → busOk u = true) ∧ Below w.heap.size w wr) (fun i _ => m - (intOf i).toNat)
      case atStart => exact ⟨0, by omega, rfl, by intro j hj; omega, a1⟩
      case round =>
        obtain ⟨k, hk, rfl, hgood, hbel⟩ := hrel
        have HG := Lib.hid hgood
        clear hgood
        by_cases hlt : k < m
        · obtain ⟨b, off, u, rfl, hb, hku, g0, g1⟩ := HU.out.at_ hlt
          rw [← hbel.cell (p := ⟨b, off + k * 2, none⟩) hb] at g0
          rw [← hbel.cell (p := ⟨b, off + k * 2 + 1, none⟩) hb] at g1
          have HK := Lib.hid hku
          clear hku
          obtain ⟨x, y⟩ := u
          simp only at g0 g1
          have a2 : ∀ o, Below w.heap.size w (wr.alloc o) := fun o => hbel.alloc hbel.size _
          cases hx : inB x 0 999
          · have HF := Lib.hid (show busesOk m ls us = false from busesOk_no HK.out (by simp [busOk, hx]))
            go_wp2_with fail
            refine (within_any x 0 999 _).mono ?_
            rintro e w2 ⟨rfl, rfl⟩
            rw [hx]
            go_wp2
            go_ret
            exact ⟨retB HF.out.symm, a2 _⟩
          · cases hy : inB y 0 999
            · have HF := Lib.hid (show busesOk m ls us = false from busesOk_no HK.out (by simp [busOk, hy]))
              go_wp2_with fail
              refine (within_any x 0 999 _).mono ?_
              rintro e w2 ⟨rfl, rfl⟩
              rw [hx]
              go_wp2_with fail
              refine (within_any y 0 999 _).mono ?_
              rintro e w2 ⟨rfl, rfl⟩
              rw [hy]
              go_wp2
              go_ret
              exact ⟨retB HF.out.symm, a2 _⟩
            · have hb2 : busOk (x, y) = true := by simp [busOk, hx, hy]
              have HB2 := Lib.hid hb2
              clear hb2
              go_wp2_with fail
              refine (within_any x 0 999 _).mono ?_
              rintro e w2 ⟨rfl, rfl⟩
              rw [hx]
              go_wp2_with fail
              refine (within_any y 0 999 _).mono ?_
              rintro e w2 ⟨rfl, rfl⟩
              rw [hy]
              go_wp2
              go_roundw
              case rel => exact ⟨k + 1, by omega, by go_num, upto_succ HG.out HK.out HB2.out, a2 _⟩
              case measure => simp [intOf]; omega
        · go_wp2
          go_ret
          obtain rfl : k = m := by omega
          refine ⟨retB ?_, hbel⟩
          simp [busesOk, HV.out, HL.out, all_of HL.out HG.out]
    · have hne : ((m : Int) == bs) = false := by simpa using hmb
      have HF := Lib.hid (show busesOk bs ls us = false by simp [busesOk, HL.out, hmb])
      clear hmb hv hbs
      go_enter Tryd.func53, Tryd.ntmps53
      go_wp2_with fail
      refine (netValid_any bs _ n c ls _ hn (HR.out.below (below_bx w _))).mono ?_
      rintro e w1 ⟨rfl, hb1⟩
      rw [HV.out]
      obtain ⟨p0, p1, _, _⟩ := ((IsBlk.new w 25 #[.int .i64 bs, .slice A n c]).keep hb1).two
      go_wp2
      go_ret
      exact ⟨retB HF.out.symm, (below_bx w _).trans (hb1.mono (by simp))⟩
  · rw [Bool.not_eq_true] at hv
    have HV := Lib.hid hv
    have HF := Lib.hid (show busesOk bs ls us = false by simp [busesOk, hv])
    clear hv
    go_enter Tryd.func53, Tryd.ntmps53
    go_wp2_with fail
    refine (netValid_any bs _ n c ls _ hn (HR.out.below (below_bx w _))).mono ?_
    rintro e w1 ⟨rfl, hb1⟩
    rw [HV.out]
    go_wp2
    go_ret
    exact ⟨retB HF.out.symm, (below_bx w _).trans (hb1.mono (by simp))⟩

set_option maxRecDepth 100000 in
theorem specBusesValid_any (bs : Int) (A : Option Addr) (n c : Nat) (ls : List L3) (U : Option Addr) (m d : Nat) (us : List U2) (w : World) (hn : n ≤ 1048576) (hr : RowL w A n ls) (hm : m ≤ 1048576) (hu : RowU w U m us) :
    Calls Tryd.prog 91 #[.agg #[.int .i64 bs, .slice A n c], .slice U m d] w fun e w' => e = .returned (.bool (busesOk bs ls us)) ∧ Below w.heap.size w w' := by
  have HR := Lib.hid hr
  have HU := Lib.hid hu
  have HL := Lib.hid hu.len
  clear hr hu
  go_enter Tryd.func91, Tryd.ntmps91
  go_wp2
  go_loopw [5] (fun i wr => ∃ k : Nat, k ≤ m ∧ i = .int .i64 k ∧ (∀ j, j < k → ∀ u, us[j]? = some u → busOk u = true) ∧ Below w.heap.size w wr ∧ IsBlk wr w.heap.size 25 #[.int .i64 bs, .slice A n c]) (fun i _ => m - (intOf i).toNat)
  case atStart => exact ⟨0, by omega, rfl, by intro j hj; omega, below_bx _ _, IsBlk.new w _ _⟩
  case round =>
    obtain ⟨k, hk, rfl, hgood, hbel, hbox⟩ := hrel
    have HG := Lib.hid hgood
    have HB := Lib.hid hbox
    clear hgood hbox
    by_cases hlt : k < m
    · obtain ⟨b, off, u, rfl, hb, hku, g0, g1⟩ := HU.out.at_ hlt
      rw [← hbel.cell (p := ⟨b, off + k * 2, none⟩) hb] at g0
      rw [← hbel.cell (p := ⟨b, off + k * 2 + 1, none⟩) hb] at g1
      have HK := Lib.hid hku
      clear hku
      obtain ⟨x, y⟩ := u
      simp only at g0 g1
      cases hx : inB x 0 999
      · have HF := Lib.hid (show busesOk bs ls us = false from busesOk_no HK.out (by simp [busOk, hx]))
        go_wp2_with fail
        refine (l1In_any x 0 999 _).mono ?_
        rintro e w2 ⟨rfl, rfl⟩
        rw [hx]
        go_wp2
        go_ret
        exact ⟨retB HF.out.symm, hbel⟩
      · cases hy : inB y 0 999
        · have HF := Lib.hid (show busesOk bs ls us = false from busesOk_no HK.out (by simp [busOk, hy]))
          go_wp2_with fail
          refine (l1In_any x 0 999 _).mono ?_
          rintro e w2 ⟨rfl, rfl⟩
          rw [hx]
          go_wp2_with fail
          refine (l1In_any y 0 999 _).mono ?_
          rintro e w2 ⟨rfl, rfl⟩
          rw [hy]
          go_wp2
          go_ret
          exact ⟨retB HF.out.symm, hbel⟩
        · have hb2 : busOk (x, y) = true := by simp [busOk, hx, hy]
          have HB2 := Lib.hid hb2
          clear hb2
          go_wp2_with fail
          refine (l1In_any x 0 999 _).mono ?_
          rintro e w2 ⟨rfl, rfl⟩
          rw [hx]
          go_wp2_with fail
          refine (l1In_any y 0 999 _).mono ?_
          rintro e w2 ⟨rfl, rfl⟩
          rw [hy]
          go_wp2
          go_roundw
          case rel => exact ⟨k + 1, by omega, by go_num, upto_succ HG.out HK.out HB2.out, hbel, HB.out⟩
          case measure => simp [intOf]; omega
    · obtain rfl : k = m := by omega
      have HA := Lib.hid (all_of HL.out HG.out)
      obtain ⟨p0, p1, _, _⟩ := HB.out.two
      go_wp2_with fail
      refine (specNetValid_any bs _ n c ls _ hn (HR.out.below hbel)).mono ?_
      rintro e w1 ⟨rfl, hb1⟩
      have a1 : Below w.heap.size w w1 := hbel.trans (hb1.mono hbel.size)
      clear p0 p1
      obtain ⟨p0, p1, _, _⟩ := (HB.out.keep hb1).two
      cases hv : netOk bs ls
      · have HF := Lib.hid (show busesOk bs ls us = false by simp [busesOk, hv])
        go_wp2
        go_ret
        exact ⟨retB HF.out.symm, a1⟩
      · have HF := Lib.hid (show busesOk bs ls us = ((k : Int) == bs) by simp [busesOk, hv, HL.out, HA.out]; rfl)
        go_wp2
        go_ret
        exact ⟨retB HF.out.symm, a1⟩

set_option maxRecDepth 100000 in
theorem l5Ok_any (bs : Int) (A : Option Addr) (n c : Nat) (ls : List L3) (B : Option Addr) (mt dt : Nat) (U : Option Addr) (m d : Nat) (us : List U2) (w : World) (hn : n ≤ 1048576) (hr : RowL w A n ls) (hmt : mt ≤ 1048576) (hm : m ≤ 1048576) (hu : RowU w U m us) :
    Calls Tryd.prog 68 #[.agg #[.int .i64 bs, .slice A n c], .slice B mt dt, .slice U m d] w fun e w' => e = .returned (.bool (okU bs ls mt us)) ∧ Below w.heap.size w w' := by
  have HR := Lib.hid hr
  have HU := Lib.hid hu
  clear hr hu
  go_enter Tryd.func68, Tryd.ntmps68
  go_wp2_with fail
  refine (specStateValid_any bs _ n c ls _ mt dt _ hn (HR.out.below (below_bx w _)) (by omega)).mono ?_
  rintro e w1 ⟨rfl, hb1⟩
  have a1 : Below w.heap.size w w1 := (below_bx w _).trans (hb1.mono (by simp))
  obtain ⟨p0, p1, _, _⟩ := ((IsBlk.new w 25 #[.int .i64 bs, .slice A n c]).keep hb1).two
  cases hs : stOk bs ls mt
  · have HF := Lib.hid (show okU bs ls mt us = false by simp [okU, hs])
    go_wp2
    go_ret
    exact ⟨retB HF.out.symm, a1⟩
  · have HF := Lib.hid (show okU bs ls mt us = busesOk bs ls us by simp [okU, hs])
    go_wp2_with fail
    refine (specBusesValid_any bs _ n c ls _ m d us _ hn (HR.out.below a1) hm (HU.out.below a1)).mono ?_
    rintro e w2 ⟨rfl, hb2⟩
    rw [← HF.out]
    go_wp2
    go_ret
    exact ⟨rfl, a1.trans (hb2.mono a1.size)⟩
end Go.Proofs.YtbhlkcnkijihcaaDoor

/- The sums of the islands, of the program. -/
namespace Go.Proofs.YtbhlkcnkijihcaaDoor
open Go.ChangeShapes Go.WideShapes Go.ChangeAt Go.RowKit

theorem busInfo : (Tryd.prog.info? 37).map (fun i => (i.zero, i.size, i.bytes)) = some (some (.agg #[.int .i64 0, .int .i64 0]), 2, 16) := by kernel_rfl
theorem makeBuses (n : Nat) (hn : n ≤ 1048576) (w : World) : (Instr.makeSlice 27 (.int .i64 (n : Int)) (.int .i64 (n : Int))).run Tryd.prog w = .ok (.slice (some ⟨w.heap.size, 0, none⟩) n n) (w.alloc (.cells (rowArr fU (List.replicate n (0, 0))) 37)) := by
  obtain ⟨i0, hi, hz0, hz1, hz2⟩ := info_parts busInfo
  have := run_make (P := Tryd.prog) w 27 37 i0 _ Tryd.underlying27 hi hz0 .i64 .i64 n n (by omega) (by omega) (by rw [hz2]; omega) (by omega)
  rw [this, Int.toNat_natCast, hz1, madeCells_row (f := fU) fU_len (Value.agg #[.int .i64 0, .int .i64 0]).cells (0, 0) rfl (by omega)]

theorem sums_bad (bs : Int) (A : Option Addr) (n c : Nat) (ls : List L3) (B : Option Addr) (m d : Nat) (U : Option Addr) (q r : Nat) (us : List U2) (w : World) (hn : n ≤ 1048576) (hr : RowL w A n ls) (hm : m ≤ 1048576) (hq : q ≤ 1048576) (hu : RowU w U q us)
    (ho : okU bs ls m us = false) :
    Calls Tryd.prog 56 #[.agg #[.int .i64 bs, .slice A n c], .slice B m d, .slice U q r] w fun e w' => e = .returned (.slice none 0 0) ∧ Below w.heap.size w w' := by
  have HR := Lib.hid hr
  have HU := Lib.hid hu
  have hO := ho
  simp only [okU] at hO
  have HO := Lib.hid hO
  clear hr hu ho hO
  go_enter Tryd.func56, Tryd.ntmps56
  go_wp2_with fail
  refine (stateValid_any bs _ n c ls _ m d _ hn (HR.out.below (below_bx w _)) (by omega)).mono ?_
  rintro e w1 ⟨rfl, hb1⟩
  have a1 : Below w.heap.size w w1 := (below_bx w _).trans (hb1.mono (by simp))
  obtain ⟨p0, p1, _, _⟩ := ((IsBlk.new w 25 #[.int .i64 bs, .slice A n c]).keep hb1).two
  cases hs : stOk bs ls m
  · go_wp2
    go_ret
    exact ⟨rfl, a1⟩
  · have HB := Lib.hid (show busesOk bs ls us = false by have := HO.out; rw [hs] at this; simpa using this)
    go_wp2_with fail
    refine (busesValid_any bs _ n c ls _ q r us _ hn (HR.out.below a1) hq (HU.out.below a1)).mono ?_
    rintro e w2 ⟨rfl, hb2⟩
    rw [HB.out]
    go_wp2
    go_ret
    exact ⟨rfl, a1.trans (hb2.mono a1.size)⟩

set_option maxRecDepth 100000 in
set_option maxHeartbeats 1000000 in
theorem sums_ok (nb : Nat) (A : Option Addr) (n c : Nat) (ls : List L3) (B : Option Addr) (m d : Nat) (ts : List Bool) (U : Option Addr) (q r : Nat) (us : List U2) (w : World) (hn : n ≤ 1048576) (hr : RowL w A n ls) (hm : m ≤ 1048576) (hrt : RowT w B m ts) (hq : q ≤ 1048576) (hu : RowU w U q us)
    (ho : okU nb ls m us = true) :
    Calls Tryd.prog 56 #[.agg #[.int .i64 (nb : Int), .slice A n c], .slice B m d, .slice U q r] w fun e w' => ∃ g, e = .returned (.slice (some ⟨g, 0, none⟩) nb nb) ∧ w.heap.size ≤ g ∧ IsBlk w' g 37 (rowArr fU (sumsF (edgesOn ls ts) nb us)) ∧ Below w.heap.size w w' := by
  have HR := Lib.hid hr
  have HT := Lib.hid hrt
  have HU := Lib.hid hu
  have hs := okU_st ho
  have hbu := okU_bu ho
  have hbs := okU_bs ho
  have hnb : nb ≤ 8 := by omega
  have HS := Lib.hid hs
  have HB := Lib.hid hbu
  have hqn : q = nb := by have := busesOk_len hbu; have := hu.len; omega
  subst hqn
  have HF := Lib.hid (show islF q ls ts = ofN (islL (edgesOn ls ts) q) by rw [islF, hrt.len, if_pos hs]; rfl)
  have hmk := makeBuses q (by omega)
  clear hr hrt hu ho hs hbu hbs
  go_enter Tryd.func56, Tryd.ntmps56
  go_wp2_with fail
  refine (stateValid_any q _ n c ls _ m d _ hn (HR.out.below (below_bx w _)) (by omega)).mono ?_
  rintro e w1 ⟨rfl, hb1⟩
  have a1 : Below w.heap.size w w1 := (below_bx w _).trans (hb1.mono (by simp))
  have k1 := Lib.hid ((IsBlk.new w 25 #[.int .i64 (q : Int), .slice A n c]).keep hb1)
  obtain ⟨p0, p1, _, _⟩ := k1.out.two
  rw [HS.out]
  go_wp2_with fail
  refine (busesValid_any q _ n c ls _ q r us _ hn (HR.out.below a1) hq (HU.out.below a1)).mono ?_
  rintro e w2 ⟨rfl, hb2⟩
  have a2 : Below w.heap.size w w2 := a1.trans (hb2.mono a1.size)
  have k2 := Lib.hid (k1.out.keep hb2)
  clear p0 p1 k1
  obtain ⟨p0, p1, _, _⟩ := k2.out.two
  rw [HB.out]
  go_wp2_with fail
  refine (isl_any q _ n c ls _ m d ts _ hn (HR.out.below a2) hm (HT.out.below a2)).mono ?_
  rintro e w3 ⟨v, rfl, hO, hb3⟩
  have a3 : Below w.heap.size w w3 := a2.trans (hb3.mono a2.size)
  have k3 := Lib.hid (k2.out.keep hb3)
  have hU3 := HU.out.below a3
  clear p0 p1 k2
  obtain ⟨p0, p1, _, _⟩ := k3.out.two
  rw [HF.out] at hO
  obtain ⟨A1, c1, rfl, _⟩ := hO.sl
  have hZ3 := hO.rowZ
  rw [ofN_len, islL_len] at hZ3 ⊢
  have HZ := Lib.hid hZ3
  have HU3 := Lib.hid hU3
  clear hO hZ3 hU3 HR HT HU HF HS
  generalize hes : edgesOn ls ts = es at *
  have HES := Lib.hid hes
  clear hes
  go_wp2_with fail
  clear hmk
  go_loopw [31] (fun i wr => ∃ k : Nat, k ≤ q ∧ i = .int .i64 k ∧ Below w3.heap.size w3 wr ∧ IsBlk wr w3.heap.size 37 (rowArr fU (sumTo5 es q us k))) (fun i _ => q - (intOf i).toNat)
  case atStart => exact ⟨0, by omega, rfl, below_bx _ _, by rw [sumTo5_zero]; exact IsBlk.new w3 _ _⟩
  case round =>
    obtain ⟨k, hk, rfl, hbel, hblk⟩ := hrel
    have KB := Lib.hid hblk
    clear hblk
    by_cases hlt : k < q
    · obtain ⟨b, off, z, rfl, hb, hkz, e0⟩ := HZ.out.at_ hlt
      rw [← hbel.cell (p := ⟨b, off + k, none⟩) hb] at e0
      obtain ⟨b', off', u, rfl, hb', hku, g0, g1⟩ := HU3.out.at_ hlt
      rw [← hbel.cell (p := ⟨b', off' + k * 2, none⟩) hb'] at g0
      rw [← hbel.cell (p := ⟨b', off' + k * 2 + 1, none⟩) hb'] at g1
      rw [ofN_get (islL_get hlt)] at hkz
      injection hkz with hkz
      subst hkz
      have hh := leastF_lt (es := es) hlt
      have hsc := sumTo5_succ (es := es) (nb := q) (k := k) (us := us)
      rw [fd_at hku, ld_at hku] at hsc
      have hu4 := busesOk_at HB.out hku
      have hgt := sumTo5_get (es := es) (k := k) (us := us) hh
      have hs4 := sumAt_bd (es := es) (k := k) (h := leastF es k) HB.out (show k ≤ 8 by omega)
      generalize leastF es k = h at *
      generalize sumAt es us k h = s at *
      obtain ⟨x, y⟩ := u
      obtain ⟨s1, s2⟩ := s
      simp only at g0 g1 hu4 hs4 hsc
      have hput := putAll_set (f := fU) fU_len (xs := sumTo5 es q us k) (k := h) (by rw [sumTo5_len]; exact hh) (s1 + x, s2 + y)
      rw [← hsc] at hput
      have HP := Lib.hid hput
      have hget := rowArr_get (f := fU) fU_len hgt
      have c0 : wr.cell? ⟨w3.heap.size, h * 2, none⟩ = some (.int .i64 s1) := (KB.out.cell _).trans (hget 0 (by omega))
      have c1' : ∀ z, ((rowArr fU (sumTo5 es q us k)).setIfInBounds (h * 2) z)[h * 2 + 1]? = some (.int .i64 s2) := fun z => by
        rw [Array.getElem?_setIfInBounds_ne (by omega)]; exact hget 1 (by omega)
      have HC1 := Lib.hid c1'
      have f0 : wr.frozen? ⟨w3.heap.size, h * 2, none⟩ = false := KB.out.thaw _
      have i0 : (0 : Int) ≤ (k : Int) := by omega
      have i1 : (k : Int) < (q : Int) := by omega
      have i2 : (0 : Int) ≤ (h : Int) := by omega
      have i3 : (h : Int) < (q : Int) := by omega
      have v1 : IntKind.i64.wrap (s1 + x) = s1 + x := IntWalk.i64_in _ (by omega)
      have v2 : IntKind.i64.wrap (s2 + y) = s2 + y := IntWalk.i64_in _ (by omega)
      obtain ⟨_, _, _, _⟩ := hu4
      obtain ⟨_, _, _, _⟩ := hs4
      clear hsc hgt hput hget hku c1'
      go_wp2
      go_still_tail 13, (by kernel_rfl)
      change wpList _ _ _ _ _ wr.drew
      have f1 : wr.drew.frozen? ⟨w3.heap.size, h * 2, none⟩ = false := f0
      have c1 : wr.drew.cell? ⟨w3.heap.size, h * 2, none⟩ = some (.int .i64 s1) := c0
      have G1 : wr.drew.cell? ⟨b', off' + k * 2 + 1, none⟩ = some (.int .i64 y) := g1
      have KD := Lib.hid (show IsBlk wr.drew w3.heap.size 37 _ from KB.out)
      have HBD := Lib.hid hbel.drew
      clear c0 f0 g0 g1 e0 hbel
      generalize wr.drew = W0 at *
      go_wp2
      have G2 : (W0.setCell ⟨w3.heap.size, h * 2, none⟩ (.int .i64 (s1 + x))).cell? ⟨b', off' + k * 2 + 1, none⟩ = some (.int .i64 y) := (World.cell?_setCell_other _ _ _ _ (fun e => by injection e with e; omega)).trans G1
      have K2 := Lib.hid (KD.out.put (h * 2) (.int .i64 (s1 + x)))
      have c2 := (K2.out.cell (h * 2 + 1)).trans (HC1.out _)
      have f2 : (W0.setCell ⟨w3.heap.size, h * 2, none⟩ (.int .i64 (s1 + x))).frozen? ⟨w3.heap.size, h * 2 + 1, none⟩ = false := K2.out.thaw _
      have HB2 := Lib.hid (HBD.out.setCell (Nat.le_refl _) (.int .i64 (s1 + x)) (p := ⟨w3.heap.size, h * 2, none⟩))
      clear c1 f1 G1 KD HBD
      generalize W0.setCell ⟨w3.heap.size, h * 2, none⟩ (.int .i64 (s1 + x)) = W1 at *
      go_still_tail 13, (by kernel_rfl)
      change wpList _ _ _ _ _ W1.drew
      have f3 : W1.drew.frozen? ⟨w3.heap.size, h * 2 + 1, none⟩ = false := f2
      have c3 : W1.drew.cell? ⟨w3.heap.size, h * 2 + 1, none⟩ = some (.int .i64 s2) := c2
      go_wp2
      go_roundw
      case rel => exact ⟨k + 1, by omega, by go_num, HB2.out.drew.setCell (Nat.le_refl _) _, by rw [← HP.out]; exact K2.out.put (h * 2 + 1) (.int .i64 (s2 + y))⟩
      case measure => simp [intOf]; omega
    · obtain rfl : k = q := by omega
      rw [← sumBack_zero] at KB
      go_wp2
      go_loopw [65] (fun i wr => ∃ j : Nat, j ≤ k ∧ i = .int .i64 j ∧ Below w3.heap.size w3 wr ∧ IsBlk wr w3.heap.size 37 (rowArr fU (sumBack es k us j))) (fun i _ => k - (intOf i).toNat)
      case atStart => exact ⟨0, by omega, rfl, hbel, KB.out⟩
      case round =>
        obtain ⟨j, hj, rfl, hbel2, hblk⟩ := hrel
        have KJ := Lib.hid hblk
        clear hblk KB hbel
        by_cases hlt2 : j < k
        · obtain ⟨b, off, z, rfl, hb, hkz, e0⟩ := HZ.out.at_ hlt2
          rw [← hbel2.cell (p := ⟨b, off + j, none⟩) hb] at e0
          rw [ofN_get (islL_get hlt2)] at hkz
          injection hkz with hkz
          subst hkz
          have hh := leastF_lt (es := es) hlt2
          have hsc := sumBack_succ (es := es) (nb := k) (k := j) (us := us)
          have hgt := sumBack_num (es := es) (k := j) (us := us) hlt2
          have hgo := sumBack_get (es := es) (k := j) (us := us) hlt2
          generalize leastF es j = h at *
          generalize sumAt es us k h = s at *
          generalize sumAt es us k _ = o at hgo
          obtain ⟨s1, s2⟩ := s
          have hput := putAll_set (f := fU) fU_len (xs := sumBack es k us j) (k := j) (by rw [sumBack_len]; exact hlt2) (s1, s2)
          rw [← hsc] at hput
          have HP := Lib.hid hput
          have hget := rowArr_get (f := fU) fU_len hgt
          have hget2 := rowArr_get (f := fU) fU_len hgo
          have c0 : wr.cell? ⟨w3.heap.size, h * 2, none⟩ = some (.int .i64 s1) := (KJ.out.cell _).trans (hget 0 (by omega))
          have c1 : wr.cell? ⟨w3.heap.size, h * 2 + 1, none⟩ = some (.int .i64 s2) := (KJ.out.cell _).trans (hget 1 (by omega))
          have d0 : wr.cell? ⟨w3.heap.size, j * 2, none⟩ = some (.int .i64 o.1) := (KJ.out.cell _).trans (hget2 0 (by omega))
          have d1 : wr.cell? ⟨w3.heap.size, j * 2 + 1, none⟩ = some (.int .i64 o.2) := (KJ.out.cell _).trans (hget2 1 (by omega))
          have f0 : wr.frozen? ⟨w3.heap.size, j * 2, none⟩ = false := KJ.out.thaw _
          have f1 : wr.frozen? ⟨w3.heap.size, j * 2 + 1, none⟩ = false := KJ.out.thaw _
          have i0 : (0 : Int) ≤ (j : Int) := by omega
          have i1 : (j : Int) < (k : Int) := by omega
          have i2 : (0 : Int) ≤ (h : Int) := by omega
          have i3 : (h : Int) < (k : Int) := by omega
          clear hsc hgt hgo hput hget hget2
          go_wp2
          go_roundw
          case rel => exact ⟨j + 1, by omega, by go_num, (hbel2.setCell (Nat.le_refl _) _).setCell (Nat.le_refl _) _, by rw [← HP.out]; exact (KJ.out.put _ _).put _ _⟩
          case measure => simp [intOf]; omega
        · obtain rfl : j = k := by omega
          rw [sumBack_all] at KJ
          go_wp2
          go_ret
          exact ⟨_, rfl, a3.size, by rw [HES.out]; exact KJ.out, a3.trans (hbel2.mono a3.size)⟩
end Go.Proofs.YtbhlkcnkijihcaaDoor

/- IslandFeed and IslandLoad, of the program. -/
namespace Go.Proofs.YtbhlkcnkijihcaaDoor
open Go.ChangeShapes Go.WideShapes Go.ChangeAt Go.RowKit

theorem feedF_bad {bs : Int} {ls : List L3} {ts : List Bool} {us : List U2} (h : okU bs ls ts.length us = false) (bus : Int) : feedF bs ls ts us bus = -1 ∧ loadF bs ls ts us bus = -1 := by
  rw [feedF, loadF, h]; simp
theorem feedF_out {bs : Int} {ls : List L3} {ts : List Bool} {us : List U2} {bus : Int} (h : inB bus 0 (bs - 1) = false) : feedF bs ls ts us bus = -1 ∧ loadF bs ls ts us bus = -1 := by
  rw [feedF, loadF, h]; simp
theorem feedF_in {nb b : Nat} {ls : List L3} {ts : List Bool} {us : List U2} (h : okU nb ls ts.length us = true) (hb : b < nb) : feedF nb ls ts us b = isum (edgesOn ls ts) nb (fd us) b ∧ loadF nb ls ts us b = isum (edgesOn ls ts) nb (ld us) b := by
  have hi : inB (b : Int) 0 ((nb : Int) - 1) = true := by simp [inB]; omega
  rw [feedF, loadF, h, hi]; simp

end Go.Proofs.YtbhlkcnkijihcaaDoor

/- AliveBuses and ServedLoad, of the program. -/
namespace Go.Proofs.YtbhlkcnkijihcaaDoor
open Go.ChangeShapes Go.WideShapes Go.ChangeAt Go.RowKit

theorem aliTo_next (es : List E2) (nb : Nat) (us : List U2) (k : Nat) : ofN (aliTo es nb us (k + 1)) = ofN (aliTo es nb us k) ++ (if aliB es nb us k = true then [(k : Int)] else []) := by
  cases h : aliB es nb us k
  · rw [aliTo_no h]; simp
  · rw [aliTo_yes h]; simp [ofN]
theorem aliF_no {bs : Int} {ls : List L3} {ts : List Bool} {us : List U2} (h : okU bs ls ts.length us = false) : aliF bs ls ts us = [] := by
  rw [aliF, if_neg (by rw [h]; decide)]
theorem serF_no {bs : Int} {ls : List L3} {ts : List Bool} {us : List U2} (h : okU bs ls ts.length us = false) : serF bs ls ts us = -1 := by
  rw [serF, if_neg (by rw [h]; decide)]
theorem sums_cells {w : World} {g nb k : Nat} {es : List E2} {us : List U2} (h : IsBlk w g 37 (rowArr fU (sumsF es nb us))) (hk : k < nb) :
    w.cell? ⟨g, k * 2, none⟩ = some (.int .i64 (isum es nb (fd us) k)) ∧ w.cell? ⟨g, k * 2 + 1, none⟩ = some (.int .i64 (isum es nb (ld us) k)) := by
  have hget := rowArr_get (f := fU) fU_len (sumsF_get (es := es) (us := us) hk)
  exact ⟨(h.cell (k * 2)).trans (hget 0 (by omega)), (h.cell (k * 2 + 1)).trans (hget 1 (by omega))⟩

set_option maxRecDepth 100000 in
set_option maxHeartbeats 400000 in
theorem alive5_any (bs : Int) (A : Option Addr) (n c : Nat) (ls : List L3) (B : Option Addr) (m d : Nat) (ts : List Bool) (U : Option Addr) (q r : Nat) (us : List U2) (w : World) (hn : n ≤ 1048576) (hr : RowL w A n ls) (hm : m ≤ 1048576) (hrt : RowT w B m ts) (hq : q ≤ 1048576) (hu : RowU w U q us) :
    Calls Tryd.prog 16 #[.agg #[.int .i64 bs, .slice A n c], .slice B m d, .slice U q r] w fun e w' => ∃ v, e = .returned v ∧ OwnI 3 w' w.heap.size v (aliF bs ls ts us) ∧ Below w.heap.size w w' := by
  obtain ⟨i0, hi, hz0, hz1, hz2⟩ := info_parts intInfo6
  have HI := Lib.hid hi
  have HR := Lib.hid hr
  have HT := Lib.hid hrt
  have HU := Lib.hid hu
  have hlt := hrt.len
  have b0 := below_bx w (.cells #[.int .i64 bs, .slice A n c] 25)
  clear hr hrt hu hi
  cases ho : okU bs ls m us
  · have HF := Lib.hid (aliF_no (bs := bs) (ls := ls) (ts := ts) (us := us) (by rw [hlt]; exact ho))
    have HO := Lib.hid ho
    clear ho hlt
    go_enter Tryd.func16, Tryd.ntmps16
    go_wp2_with fail
    refine (sums_bad bs _ n c ls _ m d _ q r us _ hn (HR.out.below b0) hm hq (HU.out.below b0) HO.out).mono ?_
    rintro e w1 ⟨rfl, hb1⟩
    go_wp2
    go_loopw [7, 15] (fun v i wr => v = .slice none 0 0 ∧ i = .int .i64 0 ∧ wr = w1) (fun _ _ _ => 0)
    case atStart => exact ⟨rfl, rfl, rfl⟩
    case round =>
      obtain ⟨rfl, rfl, rfl⟩ := hrel
      go_wp2
      go_ret
      exact ⟨_, rfl, by rw [HF.out]; exact OwnI.nil, b0.trans (hb1.mono b0.size)⟩
  · have hbs := okU_bs ho
    obtain ⟨nb, rfl⟩ := Int.eq_ofNat_of_zero_le (show 0 ≤ bs by omega)
    have hnb : nb ≤ 8 := by omega
    have HO := Lib.hid ho
    have HF := Lib.hid (show aliF nb ls ts us = ofN (aliTo (edgesOn ls ts) nb us nb) by rw [aliF, hlt, if_pos ho]; rfl)
    clear ho hbs hlt
    go_enter Tryd.func16, Tryd.ntmps16
    go_wp2_with fail
    refine (sums_ok nb _ n c ls _ m d ts _ q r us _ hn (HR.out.below b0) hm (HT.out.below b0) hq (HU.out.below b0) HO.out).mono ?_
    rintro e w1 ⟨g, rfl, hg, hblk, hb1⟩
    have a1 : Below w.heap.size w w1 := b0.trans (hb1.mono b0.size)
    have HBK := Lib.hid hblk
    have hgl := hblk.lt
    clear hblk
    go_wp2
    go_loopw [7, 15] (fun v i wr => ∃ k : Nat, k ≤ nb ∧ i = .int .i64 k ∧ OwnI 3 wr w1.heap.size v (ofN (aliTo (edgesOn ls ts) nb us k)) ∧ Below w1.heap.size w1 wr) (fun _ i _ => nb - (intOf i).toNat)
    case atStart => exact ⟨0, by omega, rfl, World.ownsRow_nil _ _ _ _, Below.refl _ _⟩
    case round =>
      obtain ⟨k, hk, rfl, hown, hbel⟩ := hrel
      have KO := Lib.hid hown
      clear hown
      by_cases hkl : k < nb
      · obtain ⟨c0, c1⟩ := sums_cells (HBK.out.below hbel hgl) hkl
        have HN := Lib.hid (aliTo_next (edgesOn ls ts) nb us k)
        have hle := aliTo_len (edgesOn ls ts) nb us k
        have hle2 : (ofN (aliTo (edgesOn ls ts) nb us k)).length ≤ k := by rw [ofN_len]; exact hle
        have q0 : (0 : Int) ≤ (k : Int) := by omega
        have q1 : (k : Int) < (nb : Int) := by omega
        have hzw := hbel.size
        have hbx := hbel.alloc hzw (.cells #[.int .i64 (isum (edgesOn ls ts) nb (fd us) k), .int .i64 (isum (edgesOn ls ts) nb (ld us) k)] 37)
        cases hcb : aliB (edgesOn ls ts) nb us k
        · rw [hcb] at HN
          have hx : ¬ 0 < isum (edgesOn ls ts) nb (fd us) k := by simpa [aliB] using hcb
          have KO1 := Lib.hid (OwnI.alloc KO.out (.cells #[.int .i64 (isum (edgesOn ls ts) nb (fd us) k), .int .i64 (isum (edgesOn ls ts) nb (ld us) k)] 37))
          clear hcb
          generalize isum (edgesOn ls ts) nb (fd us) k = x at *
          generalize isum (edgesOn ls ts) nb (ld us) k = y at *
          go_wp2
          go_roundw
          case rel => exact ⟨k + 1, by omega, by go_num, by rw [HN.out]; simpa using KO1.out, hbx⟩
          case measure => simp [intOf]; omega
        · rw [hcb] at HN
          have hx : 0 < isum (edgesOn ls ts) nb (fd us) k := by simpa [aliB] using hcb
          have KO1 := Lib.hid (OwnI.alloc KO.out (.cells #[.int .i64 (isum (edgesOn ls ts) nb (fd us) k), .int .i64 (isum (edgesOn ls ts) nb (ld us) k)] 37))
          clear hcb
          generalize isum (edgesOn ls ts) nb (fd us) k = x at *
          generalize isum (edgesOn ls ts) nb (ld us) k = y at *
          go_wp2_with (
            at_builtin
            refine wpList_append_own _ rfl _ _ _ rfl w1.heap.size 3 i0 (.int .i64 0) 1 8 Tryd.underlying33 HI.out hz0 hz1 hz2 rfl (by decide) _ _ _ rfl (World.ownsRow.alloc KO1.out _) ⟨wr.heap.size + 1, 0, none⟩ 1 1 [.int .i64 (k : Int)] rfl rfl ?c1 ?c2 ?c3 ?c4 ?c5 ?_
            case c1 => have hcn := cell_one_new (wr.alloc (.cells #[.int .i64 x, .int .i64 y] 37)) (.int .i64 (k : Int)) 3; rw [World.size_alloc] at hcn; exact hcn
            case c2 => intro u hu; simp at hu; subst hu; rfl
            case c3 => simp only [maxLen]; omega
            case c4 => omega
            case c5 => simp; omega
            intro v' w3 hown' hgrow _
            have hb3 : Below w1.heap.size w1 w3 := (hbx.alloc hbx.size _).grown hgrow (by simp; omega) (fun q hq => (World.ownsRow.lt KO1.out q hq).1))
          go_roundw
          case rel => exact ⟨k + 1, by omega, by go_num, by rw [HN.out]; simpa [OwnI] using hown', hb3⟩
          case measure => simp [intOf]; omega
      · go_wp2
        go_ret
        obtain rfl : k = nb := by omega
        exact ⟨_, rfl, by rw [HF.out]; exact OwnI.more KO.out a1.size, a1.trans (hbel.mono a1.size)⟩

set_option maxRecDepth 100000 in
set_option maxHeartbeats 400000 in
theorem served_any (bs : Int) (A : Option Addr) (n c : Nat) (ls : List L3) (B : Option Addr) (m d : Nat) (ts : List Bool) (U : Option Addr) (q r : Nat) (us : List U2) (w : World) (hn : n ≤ 1048576) (hr : RowL w A n ls) (hm : m ≤ 1048576) (hrt : RowT w B m ts) (hq : q ≤ 1048576) (hu : RowU w U q us) :
    Calls Tryd.prog 47 #[.agg #[.int .i64 bs, .slice A n c], .slice B m d, .slice U q r] w fun e w' => e = .returned (.int .i64 (serF bs ls ts us)) ∧ Below w.heap.size w w' := by
  have HR := Lib.hid hr
  have HT := Lib.hid hrt
  have HU := Lib.hid hu
  have hlt := hrt.len
  have b0 := below_bx w (.cells #[.int .i64 bs, .slice A n c] 25)
  clear hr hrt hu
  cases ho : okU bs ls m us
  · have HF := Lib.hid (serF_no (bs := bs) (ls := ls) (ts := ts) (us := us) (by rw [hlt]; exact ho))
    have HO := Lib.hid ho
    clear ho hlt
    have hcmp : ∀ w : World, (binOp .eql 27 (.slice none 0 0) (.slice none 0 0)).run Tryd.prog w = .ok (.bool true) w := fun _ => by kernel_rfl
    go_enter Tryd.func47, Tryd.ntmps47
    go_wp2_with fail
    refine (sums_bad bs _ n c ls _ m d _ q r us _ hn (HR.out.below b0) hm hq (HU.out.below b0) HO.out).mono ?_
    rintro e w1 ⟨rfl, hb1⟩
    go_wp2
    go_ret
    exact ⟨retI HF.out.symm, b0.trans (hb1.mono b0.size)⟩
  · have hbs := okU_bs ho
    have hbu := okU_bu ho
    obtain ⟨nb, rfl⟩ := Int.eq_ofNat_of_zero_le (show 0 ≤ bs by omega)
    have hnb : nb ≤ 8 := by omega
    have hqn : q = nb := by have := busesOk_len hbu; have := HU.out.len; omega
    subst hqn
    have HO := Lib.hid ho
    have HBU := Lib.hid hbu
    have HF := Lib.hid (show serF q ls ts us = gsum (serB (edgesOn ls ts) q us) (ld us) q by rw [serF, hlt, if_pos ho]; rfl)
    clear ho hbs hlt hbu
    have hcmp : ∀ (g n : Nat) (w : World), (binOp .eql 27 (.slice (some ⟨g, 0, none⟩) n n) (.slice none 0 0)).run Tryd.prog w = .ok (.bool false) w := fun _ _ _ => by kernel_rfl
    go_enter Tryd.func47, Tryd.ntmps47
    go_wp2_with fail
    refine (sums_ok q _ n c ls _ m d ts _ q r us _ hn (HR.out.below b0) hm (HT.out.below b0) hq (HU.out.below b0) HO.out).mono ?_
    rintro e w1 ⟨g, rfl, hg, hblk, hb1⟩
    have a1 : Below w.heap.size w w1 := b0.trans (hb1.mono b0.size)
    have HU1 := Lib.hid (HU.out.below a1)
    have HBK := Lib.hid hblk
    have hgl := hblk.lt
    clear hblk
    go_wp2
    go_loopw [8, 19] (fun s i wr => ∃ k : Nat, k ≤ q ∧ i = .int .i64 k ∧ s = .int .i64 (gsum (serB (edgesOn ls ts) q us) (ld us) k) ∧ Below w1.heap.size w1 wr) (fun _ i _ => q - (intOf i).toNat)
    case atStart => exact ⟨0, by omega, rfl, rfl, Below.refl _ _⟩
    case round =>
      obtain ⟨k, hk, rfl, rfl, hbel⟩ := hrel
      by_cases hkl : k < q
      · obtain ⟨c0, c1⟩ := sums_cells (HBK.out.below hbel hgl) hkl
        obtain ⟨b', off', u, rfl, hb', hku, g0, g1⟩ := HU1.out.at_ hkl
        rw [← hbel.cell (p := ⟨b', off' + k * 2 + 1, none⟩) hb'] at g1
        have hsb := gsum_bd (p := serB (edgesOn ls ts) q us) (f := ld us) (M := 999) (k := k) (fun c _ => ld_bd HBU.out c)
        have hu4 := busesOk_at HBU.out hku
        have hle := ld_at hku
        have q0 : (0 : Int) ≤ (k : Int) := by omega
        have q1 : (k : Int) < (q : Int) := by omega
        have hzw := hbel.size
        have hbx := hbel.alloc hzw (.cells #[.int .i64 (isum (edgesOn ls ts) q (fd us) k), .int .i64 (isum (edgesOn ls ts) q (ld us) k)] 37)
        have G1 := (World.cell?_alloc_lt wr (.cells #[.int .i64 (isum (edgesOn ls ts) q (fd us) k), .int .i64 (isum (edgesOn ls ts) q (ld us) k)] 37) ⟨b', off' + k * 2 + 1, none⟩ (Nat.lt_of_lt_of_le hb' hzw)).trans g1
        clear g0 g1
        cases hcb : serB (edgesOn ls ts) q us k
        · have HN := Lib.hid (gsum_no (f := ld us) hcb)
          have hx : ¬ isum (edgesOn ls ts) q (ld us) k ≤ isum (edgesOn ls ts) q (fd us) k := by simpa [serB] using hcb
          clear hcb hku hle
          generalize isum (edgesOn ls ts) q (fd us) k = x at *
          generalize isum (edgesOn ls ts) q (ld us) k = y at *
          go_wp2
          go_roundw
          case rel => exact ⟨k + 1, by omega, by go_num, by rw [HN.out], hbx⟩
          case measure => simp [intOf]; omega
        · have HN := Lib.hid (gsum_yes (f := ld us) hcb)
          rw [hle] at HN
          have hx : isum (edgesOn ls ts) q (ld us) k ≤ isum (edgesOn ls ts) q (fd us) k := by simpa [serB] using hcb
          have v1 : IntKind.i64.wrap (gsum (serB (edgesOn ls ts) q us) (ld us) k + u.2) = gsum (serB (edgesOn ls ts) q us) (ld us) k + u.2 := IntWalk.i64_in _ (by omega)
          clear hcb hku hle hsb hu4
          generalize gsum (serB (edgesOn ls ts) q us) (ld us) k = s at *
          generalize isum (edgesOn ls ts) q (fd us) k = x at *
          generalize isum (edgesOn ls ts) q (ld us) k = y at *
          go_wp2
          go_roundw
          case rel => exact ⟨k + 1, by omega, by go_num, by rw [HN.out], hbx⟩
          case measure => simp [intOf]; omega
      · obtain rfl : k = q := by omega
        go_wp2
        go_ret
        exact ⟨retI HF.out.symm, a1.trans (hbel.mono a1.size)⟩
end Go.Proofs.YtbhlkcnkijihcaaDoor
