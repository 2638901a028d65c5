/- Texts joined: BusesValid, of the program and of the model; what the model's chapter 5 asks of its arguments; The sums of the islands, of the program; IslandFeed and IslandLoad, of the program; AliveBuses and ServedLoad, of the program; IslandFeed, IslandLoad, AliveBuses and ServedLoad, of the model. -/
import Derived.Test.YtpmkeagdoehbhaaDoorBCA
import Derived.Test.YtpmkeagdoehbhaaDoorBPC
import Derived.Test.YtpmkeagdoehbhaaDoorBCD
import Derived.Test.YtpmkeagdoehbhaaDoorBCE

/- BusesValid, of the program and of the model; what the model's chapter 5 asks of its arguments. -/
namespace Go.Proofs.YtpmkeagdoehbhaaDoor
open Go.ChangeShapes Go.WideShapes Go.ChangeAt Go.RowKit

theorem busesOk_no {bs : Int} {ls : List L3} {us : List U2} {k : Nat} {u : U2} (hk : us[k]? = some u) (h : busOk u = false) : busesOk bs ls us = false := by
  simp [busesOk, all_stop hk h]

set_option maxRecDepth 100000 in
theorem busesValid_any (bs : Int) (A : Option Addr) (n c : Nat) (ls : List L3) (U : Option Addr) (m d : Nat) (us : List U2) (w : World) (hn : n ≤ 1048576) (hr : RowL w A n ls) (hm : m ≤ 1048576) (hu : RowU w U m us) :
    Calls Tryd.prog 75 #[.agg #[.int .i64 bs, .slice A n c], .slice U m d] w fun e w' => e = .returned (.bool (busesOk bs ls us)) ∧ Below w.heap.size w w' := by
  have HR := Lib.hid hr
  have HU := Lib.hid hu
  have HL := Lib.hid hu.len
  clear hr hu
  by_cases hv : netOk bs ls = true
  · have HV := Lib.hid hv
    have hbs := netOk_len hv
    by_cases hmb : (m : Int) = bs
    · subst hmb
      have hm8 : m ≤ 8 := by omega
      clear hv hbs
      go_enter Tryd.func75, Tryd.ntmps75
      go_wp2_with fail
      refine (netValid_any m _ n c ls _ hn (HR.out.below (below_bx w _))).mono ?_
      rintro e w1 ⟨rfl, hb1⟩
      rw [HV.out]
      have a1 : Below w.heap.size w w1 := (below_bx w _).trans (hb1.mono (by simp))
      obtain ⟨p0, p1, _, _⟩ := ((IsBlk.new w 25 #[.int .i64 (m : Int), .slice A n c]).keep hb1).two
      go_wp2
      go_loopw [19] (fun i wr => ∃ k : Nat, k ≤ m ∧ i = .int .i64 k ∧ (∀ j, j < k → ∀ u, us[j]? = some u → busOk u = true) ∧ Below w.heap.size w wr) (fun i _ => m - (intOf i).toNat)
      case atStart => exact ⟨0, by omega, rfl, by intro j hj; omega, a1⟩
      case round =>
        obtain ⟨k, hk, rfl, hgood, hbel⟩ := hrel
        have HG := Lib.hid hgood
        clear hgood
        by_cases hlt : k < m
        · obtain ⟨b, off, u, rfl, hb, hku, g0, g1⟩ := HU.out.at_ hlt
          rw [← hbel.cell (p := ⟨b, off + k * 2, none⟩) hb] at g0
          rw [← hbel.cell (p := ⟨b, off + k * 2 + 1, none⟩) hb] at g1
          have HK := Lib.hid hku
          clear hku
          obtain ⟨x, y⟩ := u
          simp only at g0 g1
          have a2 : ∀ o, Below w.heap.size w (wr.alloc o) := fun o => hbel.alloc hbel.size _
          cases hx : inB x 0 999
          · have HF := Lib.hid (show busesOk m ls us = false from busesOk_no HK.out (by simp [busOk, hx]))
            go_wp2_with fail
            refine (within_any x 0 999 _).mono ?_
            rintro e w2 ⟨rfl, rfl⟩
            rw [hx]
            go_wp2
            go_ret
            exact ⟨retB HF.out.symm, a2 _⟩
          · cases hy : inB y 0 999
            · have HF := Lib.hid (show busesOk m ls us = false from busesOk_no HK.out (by simp [busOk, hy]))
              go_wp2_with fail
              refine (within_any x 0 999 _).mono ?_
              rintro e w2 ⟨rfl, rfl⟩
              rw [hx]
              go_wp2_with fail
              refine (within_any y 0 999 _).mono ?_
              rintro e w2 ⟨rfl, rfl⟩
              rw [hy]
              go_wp2
              go_ret
              exact ⟨retB HF.out.symm, a2 _⟩
            · have hb2 : busOk (x, y) = true := by simp [busOk, hx, hy]
              have HB2 := Lib.hid hb2
              clear hb2
              go_wp2_with fail
              refine (within_any x 0 999 _).mono ?_
              rintro e w2 ⟨rfl, rfl⟩
              rw [hx]
              go_wp2_with fail
              refine (within_any y 0 999 _).mono ?_
              rintro e w2 ⟨rfl, rfl⟩
              rw [hy]
              go_wp2
              go_roundw
              case rel => exact ⟨k + 1, by omega, by go_num, upto_succ HG.out HK.out HB2.out, a2 _⟩
              case measure => simp [intOf]; omega
        · go_wp2
          go_ret
          obtain rfl : k = m := by omega
          refine ⟨retB ?_, hbel⟩
          simp [busesOk, HV.out, HL.out, all_of HL.out HG.out]
    · have hne : ((m : Int) == bs) = false := by simpa using hmb
      have HF := Lib.hid (show busesOk bs ls us = false by simp [busesOk, HL.out, hmb])
      clear hmb hv hbs
      go_enter Tryd.func75, Tryd.ntmps75
      go_wp2_with fail
      refine (netValid_any bs _ n c ls _ hn (HR.out.below (below_bx w _))).mono ?_
      rintro e w1 ⟨rfl, hb1⟩
      rw [HV.out]
      obtain ⟨p0, p1, _, _⟩ := ((IsBlk.new w 25 #[.int .i64 bs, .slice A n c]).keep hb1).two
      go_wp2
      go_ret
      exact ⟨retB HF.out.symm, (below_bx w _).trans (hb1.mono (by simp))⟩
  · rw [Bool.not_eq_true] at hv
    have HV := Lib.hid hv
    have HF := Lib.hid (show busesOk bs ls us = false by simp [busesOk, hv])
    clear hv
    go_enter Tryd.func75, Tryd.ntmps75
    go_wp2_with fail
    refine (netValid_any bs _ n c ls _ hn (HR.out.below (below_bx w _))).mono ?_
    rintro e w1 ⟨rfl, hb1⟩
    rw [HV.out]
    go_wp2
    go_ret
    exact ⟨retB HF.out.symm, (below_bx w _).trans (hb1.mono (by simp))⟩

set_option maxRecDepth 100000 in
theorem specBusesValid_any (bs : Int) (A : Option Addr) (n c : Nat) (ls : List L3) (U : Option Addr) (m d : Nat) (us : List U2) (w : World) (hn : n ≤ 1048576) (hr : RowL w A n ls) (hm : m ≤ 1048576) (hu : RowU w U m us) :
    Calls Tryd.prog 79 #[.agg #[.int .i64 bs, .slice A n c], .slice U m d] w fun e w' => e = .returned (.bool (busesOk bs ls us)) ∧ Below w.heap.size w w' := by
  have HR := Lib.hid hr
  have HU := Lib.hid hu
  have HL := Lib.hid hu.len
  clear hr hu
  go_enter Tryd.func79, Tryd.ntmps79
  go_wp2
  go_loopw [5] (fun i wr => ∃ k : Nat, k ≤ m ∧ i = .int .i64 k ∧ (∀ j, j < k → ∀ u, us[j]? = some u → busOk u = true) ∧ Below w.heap.size w wr ∧ IsBlk wr w.heap.size 25 #[.int .i64 bs, .slice A n c]) (fun i _ => m - (intOf i).toNat)
  case atStart => exact ⟨0, by omega, rfl, by intro j hj; omega, below_bx _ _, IsBlk.new w _ _⟩
  case round =>
    obtain ⟨k, hk, rfl, hgood, hbel, hbox⟩ := hrel
    have HG := Lib.hid hgood
    have HB := Lib.hid hbox
    clear hgood hbox
    by_cases hlt : k < m
    · obtain ⟨b, off, u, rfl, hb, hku, g0, g1⟩ := HU.out.at_ hlt
      rw [← hbel.cell (p := ⟨b, off + k * 2, none⟩) hb] at g0
      rw [← hbel.cell (p := ⟨b, off + k * 2 + 1, none⟩) hb] at g1
      have HK := Lib.hid hku
      clear hku
      obtain ⟨x, y⟩ := u
      simp only at g0 g1
      cases hx : inB x 0 999
      · have HF := Lib.hid (show busesOk bs ls us = false from busesOk_no HK.out (by simp [busOk, hx]))
        go_wp2_with fail
        refine (l1In_any x 0 999 _).mono ?_
        rintro e w2 ⟨rfl, rfl⟩
        rw [hx]
        go_wp2
        go_ret
        exact ⟨retB HF.out.symm, hbel⟩
      · cases hy : inB y 0 999
        · have HF := Lib.hid (show busesOk bs ls us = false from busesOk_no HK.out (by simp [busOk, hy]))
          go_wp2_with fail
          refine (l1In_any x 0 999 _).mono ?_
          rintro e w2 ⟨rfl, rfl⟩
          rw [hx]
          go_wp2_with fail
          refine (l1In_any y 0 999 _).mono ?_
          rintro e w2 ⟨rfl, rfl⟩
          rw [hy]
          go_wp2
          go_ret
          exact ⟨retB HF.out.symm, hbel⟩
        · have hb2 : busOk (x, y) = true := by simp [busOk, hx, hy]
          have HB2 := Lib.hid hb2
          clear hb2
          go_wp2_with fail
          refine (l1In_any x 0 999 _).mono ?_
          rintro e w2 ⟨rfl, rfl⟩
          rw [hx]
          go_wp2_with fail
          refine (l1In_any y 0 999 _).mono ?_
          rintro e w2 ⟨rfl, rfl⟩
          rw [hy]
          go_wp2
          go_roundw
          case rel => exact ⟨k + 1, by omega, by go_num, upto_succ HG.out HK.out HB2.out, hbel, HB.out⟩
          case measure => simp [intOf]; omega
    · obtain rfl : k = m := by omega
      have HA := Lib.hid (all_of HL.out HG.out)
      obtain ⟨p0, p1, _, _⟩ := HB.out.two
      go_wp2_with fail
      refine (specNetValid_any bs _ n c ls _ hn (HR.out.below hbel)).mono ?_
      rintro e w1 ⟨rfl, hb1⟩
      have a1 : Below w.heap.size w w1 := hbel.trans (hb1.mono hbel.size)
      clear p0 p1
      obtain ⟨p0, p1, _, _⟩ := (HB.out.keep hb1).two
      cases hv : netOk bs ls
      · have HF := Lib.hid (show busesOk bs ls us = false by simp [busesOk, hv])
        go_wp2
        go_ret
        exact ⟨retB HF.out.symm, a1⟩
      · have HF := Lib.hid (show busesOk bs ls us = ((k : Int) == bs) by simp [busesOk, hv, HL.out, HA.out]; rfl)
        go_wp2
        go_ret
        exact ⟨retB HF.out.symm, a1⟩

set_option maxRecDepth 100000 in
theorem l5Ok_any (bs : Int) (A : Option Addr) (n c : Nat) (ls : List L3) (B : Option Addr) (mt dt : Nat) (U : Option Addr) (m d : Nat) (us : List U2) (w : World) (hn : n ≤ 1048576) (hr : RowL w A n ls) (hmt : mt ≤ 1048576) (hm : m ≤ 1048576) (hu : RowU w U m us) :
    Calls Tryd.prog 65 #[.agg #[.int .i64 bs, .slice A n c], .slice B mt dt, .slice U m d] w fun e w' => e = .returned (.bool (okU bs ls mt us)) ∧ Below w.heap.size w w' := by
  have HR := Lib.hid hr
  have HU := Lib.hid hu
  clear hr hu
  go_enter Tryd.func65, Tryd.ntmps65
  go_wp2_with fail
  refine (specStateValid_any bs _ n c ls _ mt dt _ hn (HR.out.below (below_bx w _)) (by omega)).mono ?_
  rintro e w1 ⟨rfl, hb1⟩
  have a1 : Below w.heap.size w w1 := (below_bx w _).trans (hb1.mono (by simp))
  obtain ⟨p0, p1, _, _⟩ := ((IsBlk.new w 25 #[.int .i64 bs, .slice A n c]).keep hb1).two
  cases hs : stOk bs ls mt
  · have HF := Lib.hid (show okU bs ls mt us = false by simp [okU, hs])
    go_wp2
    go_ret
    exact ⟨retB HF.out.symm, a1⟩
  · have HF := Lib.hid (show okU bs ls mt us = busesOk bs ls us by simp [okU, hs])
    go_wp2_with fail
    refine (specBusesValid_any bs _ n c ls _ m d us _ hn (HR.out.below a1) hm (HU.out.below a1)).mono ?_
    rintro e w2 ⟨rfl, hb2⟩
    rw [← HF.out]
    go_wp2
    go_ret
    exact ⟨rfl, a1.trans (hb2.mono a1.size)⟩
end Go.Proofs.YtpmkeagdoehbhaaDoor

/- The sums of the islands, of the program. -/
namespace Go.Proofs.YtpmkeagdoehbhaaDoor
open Go.ChangeShapes Go.WideShapes Go.ChangeAt Go.RowKit

theorem busInfo : (Tryd.prog.info? 34).map (fun i => (i.zero, i.size, i.bytes)) = some (some (.agg #[.int .i64 0, .int .i64 0]), 2, 16) := by kernel_rfl
theorem makeBuses (n : Nat) (hn : n ≤ 1048576) (w : World) : (Instr.makeSlice 27 (.int .i64 (n : Int)) (.int .i64 (n : Int))).run Tryd.prog w = .ok (.slice (some ⟨w.heap.size, 0, none⟩) n n) (w.alloc (.cells (rowArr fU (List.replicate n (0, 0))) 34)) := by
  obtain ⟨i0, hi, hz0, hz1, hz2⟩ := info_parts busInfo
  have := run_make (P := Tryd.prog) w 27 34 i0 _ Tryd.underlying27 hi hz0 .i64 .i64 n n (by omega) (by omega) (by rw [hz2]; omega) (by omega)
  rw [this, Int.toNat_natCast, hz1, madeCells_row (f := fU) fU_len (Value.agg #[.int .i64 0, .int .i64 0]).cells (0, 0) rfl (by omega)]

end Go.Proofs.YtpmkeagdoehbhaaDoor

/- IslandFeed and IslandLoad, of the program. -/
namespace Go.Proofs.YtpmkeagdoehbhaaDoor
open Go.ChangeShapes Go.WideShapes Go.ChangeAt Go.RowKit

theorem feedF_bad {bs : Int} {ls : List L3} {ts : List Bool} {us : List U2} (h : okU bs ls ts.length us = false) (bus : Int) : feedF bs ls ts us bus = -1 ∧ loadF bs ls ts us bus = -1 := by
  rw [feedF, loadF, h]; simp
theorem feedF_out {bs : Int} {ls : List L3} {ts : List Bool} {us : List U2} {bus : Int} (h : inB bus 0 (bs - 1) = false) : feedF bs ls ts us bus = -1 ∧ loadF bs ls ts us bus = -1 := by
  rw [feedF, loadF, h]; simp
theorem feedF_in {nb b : Nat} {ls : List L3} {ts : List Bool} {us : List U2} (h : okU nb ls ts.length us = true) (hb : b < nb) : feedF nb ls ts us b = isum (edgesOn ls ts) nb (fd us) b ∧ loadF nb ls ts us b = isum (edgesOn ls ts) nb (ld us) b := by
  have hi : inB (b : Int) 0 ((nb : Int) - 1) = true := by simp [inB]; omega
  rw [feedF, loadF, h, hi]; simp

end Go.Proofs.YtpmkeagdoehbhaaDoor

/- AliveBuses and ServedLoad, of the program. -/
namespace Go.Proofs.YtpmkeagdoehbhaaDoor
open Go.ChangeShapes Go.WideShapes Go.ChangeAt Go.RowKit

theorem aliTo_next (es : List E2) (nb : Nat) (us : List U2) (k : Nat) : ofN (aliTo es nb us (k + 1)) = ofN (aliTo es nb us k) ++ (if aliB es nb us k = true then [(k : Int)] else []) := by
  cases h : aliB es nb us k
  · rw [aliTo_no h]; simp
  · rw [aliTo_yes h]; simp [ofN]
theorem aliF_no {bs : Int} {ls : List L3} {ts : List Bool} {us : List U2} (h : okU bs ls ts.length us = false) : aliF bs ls ts us = [] := by
  rw [aliF, if_neg (by rw [h]; decide)]
theorem serF_no {bs : Int} {ls : List L3} {ts : List Bool} {us : List U2} (h : okU bs ls ts.length us = false) : serF bs ls ts us = -1 := by
  rw [serF, if_neg (by rw [h]; decide)]
theorem sums_cells {w : World} {g nb k : Nat} {es : List E2} {us : List U2} (h : IsBlk w g 34 (rowArr fU (sumsF es nb us))) (hk : k < nb) :
    w.cell? ⟨g, k * 2, none⟩ = some (.int .i64 (isum es nb (fd us) k)) ∧ w.cell? ⟨g, k * 2 + 1, none⟩ = some (.int .i64 (isum es nb (ld us) k)) := by
  have hget := rowArr_get (f := fU) fU_len (sumsF_get (es := es) (us := us) hk)
  exact ⟨(h.cell (k * 2)).trans (hget 0 (by omega)), (h.cell (k * 2 + 1)).trans (hget 1 (by omega))⟩

end Go.Proofs.YtpmkeagdoehbhaaDoor

/- IslandFeed, IslandLoad, AliveBuses and ServedLoad, of the model. -/
namespace Go.Proofs.YtpmkeagdoehbhaaDoor
open Go.ChangeShapes Go.WideShapes Go.ChangeAt Go.RowKit

set_option maxRecDepth 100000 in
set_option maxHeartbeats 400000 in
theorem specLoad_any (bs : Int) (A : Option Addr) (n c : Nat) (ls : List L3) (B : Option Addr) (m d : Nat) (ts : List Bool) (U : Option Addr) (q r : Nat) (us : List U2) (bus : Int) (w : World) (hn : n ≤ 1048576) (hr : RowL w A n ls) (hm : m ≤ 1048576) (hrt : RowT w B m ts) (hq : q ≤ 1048576) (hu : RowU w U q us) :
    Calls Tryd.prog 70 #[.agg #[.int .i64 bs, .slice A n c], .slice B m d, .slice U q r, .int .i64 bus] w fun e w' => e = .returned (.int .i64 (loadF bs ls ts us bus)) ∧ Below w.heap.size w w' := by
  have HR := Lib.hid hr
  have HT := Lib.hid hrt
  have HU := Lib.hid hu
  have hlt := hrt.len
  have b0 := below_bx w (.cells #[.int .i64 bs, .slice A n c] 25)
  have K0 := Lib.hid (IsBlk.new w 25 #[.int .i64 bs, .slice A n c])
  clear hr hrt hu
  go_enter Tryd.func70, Tryd.ntmps70
  go_wp2_with fail
  refine (l5Ok_any bs _ n c ls _ m d _ q r us _ hn (HR.out.below b0) hm hq (HU.out.below b0)).mono ?_
  rintro e w1 ⟨rfl, hb1⟩
  have a1 := b0.trans (hb1.mono b0.size)
  have K1 := Lib.hid (K0.out.keep hb1)
  obtain ⟨p0, p1, _, _⟩ := K1.out.two
  cases ho : okU bs ls m us
  · have HF := Lib.hid (feedF_bad (bs := bs) (ls := ls) (ts := ts) (us := us) (by rw [hlt]; exact ho) bus).2
    go_wp2
    go_ret
    exact ⟨retI HF.out.symm, a1⟩
  · have hbs := okU_bs ho
    have hbu := okU_bu ho
    obtain ⟨nb, rfl⟩ := Int.eq_ofNat_of_zero_le (show 0 ≤ bs by omega)
    have hnb : nb ≤ 8 := by omega
    have hqn : q = nb := by have := busesOk_len hbu; have := HU.out.len; omega
    subst hqn
    have hwr : IntKind.i64.wrap ((q : Int) - 1) = (q : Int) - 1 := IntWalk.i64_in _ (by omega)
    cases hw : inB bus 0 ((q : Int) - 1)
    · have HF := Lib.hid (feedF_out (ls := ls) (ts := ts) (us := us) hw).2
      go_wp2_with fail
      refine (l1In_any bus 0 _ _).mono ?_
      rintro e w2 ⟨rfl, rfl⟩
      rw [hw]
      clear hwr
      go_wp2
      go_ret
      exact ⟨retI HF.out.symm, a1⟩
    · have hw2 := hw
      simp only [inB, Bool.and_eq_true, decide_eq_true_eq] at hw2
      obtain ⟨b, rfl⟩ := Int.eq_ofNat_of_zero_le hw2.1
      have hb : b < q := by omega
      have HF := Lib.hid (feedF_in (nb := q) (ls := ls) (ts := ts) (us := us) (by rw [hlt]; exact ho) hb).2
      have HRC := Lib.hid (show rchF q ls ts b = ofN (reachF (edgesOn ls ts) q b) by rw [rchF, hlt, if_pos ⟨okU_st ho, hw⟩]; rfl)
      have HBU := Lib.hid hbu
      go_wp2_with fail
      refine (l1In_any _ 0 _ _).mono ?_
      rintro e w2 ⟨rfl, rfl⟩
      rw [hw]
      clear hwr hw hw2 ho hbu hbs
      go_wp2_with fail
      refine (specRch_any q _ n c ls _ m d ts b _ hn (HR.out.below a1) hm (HT.out.below a1)).mono ?_
      rintro e w2 ⟨v, rfl, hO, hb2⟩
      have a2 := a1.trans (hb2.mono a1.size)
      rw [HRC.out] at hO
      obtain ⟨A2, c2, rfl, hz⟩ := hO.sl
      rw [ofN_len] at hz ⊢
      have HZ := Lib.hid hz
      have HU2 := Lib.hid (HU.out.below a2)
      have hmem : ∀ h ∈ reachF (edgesOn ls ts) q b, h < q := fun h hh => (mem_reachF.1 hh).1
      have HFS := Lib.hid (show lsum (ld us) (reachF (edgesOn ls ts) q b) (reachF (edgesOn ls ts) q b).length = loadF q ls ts us b by rw [lsum_all, isum_list, HF.out])
      have hrl : (reachF (edgesOn ls ts) q b).length ≤ 8 := Nat.le_trans (List.length_filter_le _ _) (by simp; omega)
      clear hO hz HF HRC
      generalize reachF (edgesOn ls ts) q b = hs at *
      have HM := Lib.hid hmem
      clear hmem
      go_wp2_with fail
      go_loopw [9, 11] (fun s i wr => ∃ k : Nat, k ≤ hs.length ∧ i = .int .i64 k ∧ s = .int .i64 (lsum (ld us) hs k) ∧ wr = w2) (fun _ i _ => hs.length - (intOf i).toNat)
      case atStart => exact ⟨0, by omega, rfl, rfl, rfl⟩
      case round =>
        obtain ⟨k, hk, rfl, rfl, rfl⟩ := hrel
        by_cases hkl : k < hs.length
        · obtain ⟨bz, oz, z, rfl, hbz, hkz, g0⟩ := HZ.out.at_ hkl
          have hkh : hs[k]? = some (hs[k]'hkl) := List.getElem?_eq_getElem _
          generalize (hs[k]'hkl) = h at hkh
          rw [ofN_get hkh] at hkz
          injection hkz with hkz
          subst hkz
          have hh := HM.out h (List.mem_of_getElem? hkh)
          obtain ⟨bu, ou, u, rfl, hbu, hku, e0, e1⟩ := HU2.out.at_ hh
          have hs1 := lsum_succ (f := ld us) hkh
          rw [ld_at hku] at hs1
          have HS1 := Lib.hid hs1
          have hbd := lsum_bd (f := ld us) (hs := hs) (M := 999) (fun h _ => ld_bd HBU.out h) k hk
          have hu4 := busesOk_at HBU.out hku
          have v1 : IntKind.i64.wrap (lsum (ld us) hs k + u.2) = lsum (ld us) hs k + u.2 := IntWalk.i64_in _ (by omega)
          have q0 : (0 : Int) ≤ (k : Int) := by omega
          have q1 : (k : Int) < (hs.length : Int) := by omega
          have q2 : (0 : Int) ≤ (h : Int) := by omega
          have q3 : (h : Int) < (q : Int) := by omega
          clear hs1 hbd hu4 hku hkh
          go_wp2
          go_roundw
          case rel => exact ⟨k + 1, by omega, by go_num, by rw [HS1.out], by first | rfl | trivial⟩
          case measure => simp [intOf]; omega
        · obtain rfl : k = hs.length := by omega
          go_wp2
          go_ret
          exact ⟨retI HFS.out, a2⟩

theorem holdV {w w' : World} {X : Nat} {u v : Value} (p0 : w.cell? ⟨X, 0, none⟩ = some u) (p1 : w.cell? ⟨X, 1, none⟩ = some v) (hX : X < w.heap.size) (hb : Below w.heap.size w w') :
    Below w.heap.size w w' ∧ w'.cell? ⟨X, 0, none⟩ = some u ∧ w'.cell? ⟨X, 1, none⟩ = some v :=
  ⟨hb, (hb.cell (p := ⟨X, 0, none⟩) hX).trans p0, (hb.cell (p := ⟨X, 1, none⟩) hX).trans p1⟩
theorem runV {w0 w w' : World} {p : Prop} (h : Below w0.heap.size w0 w ∧ p) (hb : Below w.heap.size w w') : Below w0.heap.size w0 w' := h.1.trans (hb.mono h.1.size)
/-- The memory in which the model lists buses: the network's box and an empty list. -/
theorem numSt5 (w : World) (bs : Int) (n c : Nat) (A : Option Addr) : NumSt w ((w.alloc (.cells #[.int .i64 bs, .slice A n c] 25)).alloc (.cells #[] 3)) bs n c A (.slice (some ⟨w.heap.size + 1, 0, none⟩) 0 0) [] := by
  have hown0 := own_lit (w.alloc (.cells #[.int .i64 bs, .slice A n c] 25))
  simp only [World.size_alloc] at hown0
  exact ⟨hown0, (below_bx w _).alloc (by simp) _, (IsBlk.new w 25 #[.int .i64 bs, .slice A n c]).alloc (.cells #[] 3)⟩

end Go.Proofs.YtpmkeagdoehbhaaDoor
