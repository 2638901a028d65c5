/- The sums of the islands, of the program. -/
import Derived.Test.YtobbmnbkjeoheaaDoorI5
import Derived.Test.YtobbmnbkjeoheaaDoorV1
import Derived.Test.YtobbmnbkjeoheaaDoorV2
namespace Go.Proofs.YtobbmnbkjeoheaaDoor
open Go.ChangeShapes Go.WideShapes Go.ChangeAt Go.RowKit

theorem busInfo : (Tryd.prog.info? 32).map (fun i => (i.zero, i.size, i.bytes)) = some (some (.agg #[.int .i64 0, .int .i64 0]), 2, 16) := by kernel_rfl
theorem makeBuses (n : Nat) (hn : n ≤ 1048576) (w : World) : (Instr.makeSlice 26 (.int .i64 (n : Int)) (.int .i64 (n : Int))).run Tryd.prog w = .ok (.slice (some ⟨w.heap.size, 0, none⟩) n n) (w.alloc (.cells (rowArr fU (List.replicate n (0, 0))) 32)) := by
  obtain ⟨i0, hi, hz0, hz1, hz2⟩ := info_parts busInfo
  have := run_make (P := Tryd.prog) w 26 32 i0 _ Tryd.underlying26 hi hz0 .i64 .i64 n n (by omega) (by omega) (by rw [hz2]; omega) (by omega)
  rw [this, Int.toNat_natCast, hz1, madeCells_row (f := fU) fU_len (Value.agg #[.int .i64 0, .int .i64 0]).cells (0, 0) rfl (by omega)]

theorem sums_bad (bs : Int) (A : Option Addr) (n c : Nat) (ls : List L3) (B : Option Addr) (m d : Nat) (U : Option Addr) (q r : Nat) (us : List U2) (w : World) (hn : n ≤ 1048576) (hr : RowL w A n ls) (hm : m ≤ 1048576) (hq : q ≤ 1048576) (hu : RowU w U q us)
    (ho : okU bs ls m us = false) :
    Calls Tryd.prog 50 #[.agg #[.int .i64 bs, .slice A n c], .slice B m d, .slice U q r] w fun e w' => e = .returned (.slice none 0 0) ∧ Below w.heap.size w w' := by
  have HR := Lib.hid hr
  have HU := Lib.hid hu
  have hO := ho
  simp only [okU] at hO
  have HO := Lib.hid hO
  clear hr hu ho hO
  go_enter Tryd.func50, Tryd.ntmps50
  go_wp2_with fail
  refine (stateValid_any bs _ n c ls _ m d _ hn (HR.out.below (below_bx w _)) (by omega)).mono ?_
  rintro e w1 ⟨rfl, hb1⟩
  have a1 : Below w.heap.size w w1 := (below_bx w _).trans (hb1.mono (by simp))
  obtain ⟨p0, p1, _, _⟩ := ((IsBlk.new w 25 #[.int .i64 bs, .slice A n c]).keep hb1).two
  cases hs : stOk bs ls m
  · go_wp2
    go_ret
    exact ⟨rfl, a1⟩
  · have HB := Lib.hid (show busesOk bs ls us = false by have := HO.out; rw [hs] at this; simpa using this)
    go_wp2_with fail
    refine (busesValid_any bs _ n c ls _ q r us _ hn (HR.out.below a1) hq (HU.out.below a1)).mono ?_
    rintro e w2 ⟨rfl, hb2⟩
    rw [HB.out]
    go_wp2
    go_ret
    exact ⟨rfl, a1.trans (hb2.mono a1.size)⟩

set_option maxRecDepth 100000 in
set_option maxHeartbeats 1000000 in
theorem sums_ok (nb : Nat) (A : Option Addr) (n c : Nat) (ls : List L3) (B : Option Addr) (m d : Nat) (ts : List Bool) (U : Option Addr) (q r : Nat) (us : List U2) (w : World) (hn : n ≤ 1048576) (hr : RowL w A n ls) (hm : m ≤ 1048576) (hrt : RowT w B m ts) (hq : q ≤ 1048576) (hu : RowU w U q us)
    (ho : okU nb ls m us = true) :
    Calls Tryd.prog 50 #[.agg #[.int .i64 (nb : Int), .slice A n c], .slice B m d, .slice U q r] w fun e w' => ∃ g, e = .returned (.slice (some ⟨g, 0, none⟩) nb nb) ∧ w.heap.size ≤ g ∧ IsBlk w' g 32 (rowArr fU (sumsF (edgesOn ls ts) nb us)) ∧ Below w.heap.size w w' := by
  have HR := Lib.hid hr
  have HT := Lib.hid hrt
  have HU := Lib.hid hu
  have hs := okU_st ho
  have hbu := okU_bu ho
  have hbs := okU_bs ho
  have hnb : nb ≤ 8 := by omega
  have HS := Lib.hid hs
  have HB := Lib.hid hbu
  have hqn : q = nb := by have := busesOk_len hbu; have := hu.len; omega
  subst hqn
  have HF := Lib.hid (show islF q ls ts = ofN (islL (edgesOn ls ts) q) by rw [islF, hrt.len, if_pos hs]; rfl)
  have hmk := makeBuses q (by omega)
  clear hr hrt hu ho hs hbu hbs
  go_enter Tryd.func50, Tryd.ntmps50
  go_wp2_with fail
  refine (stateValid_any q _ n c ls _ m d _ hn (HR.out.below (below_bx w _)) (by omega)).mono ?_
  rintro e w1 ⟨rfl, hb1⟩
  have a1 : Below w.heap.size w w1 := (below_bx w _).trans (hb1.mono (by simp))
  have k1 := Lib.hid ((IsBlk.new w 25 #[.int .i64 (q : Int), .slice A n c]).keep hb1)
  obtain ⟨p0, p1, _, _⟩ := k1.out.two
  rw [HS.out]
  go_wp2_with fail
  refine (busesValid_any q _ n c ls _ q r us _ hn (HR.out.below a1) hq (HU.out.below a1)).mono ?_
  rintro e w2 ⟨rfl, hb2⟩
  have a2 : Below w.heap.size w w2 := a1.trans (hb2.mono a1.size)
  have k2 := Lib.hid (k1.out.keep hb2)
  clear p0 p1 k1
  obtain ⟨p0, p1, _, _⟩ := k2.out.two
  rw [HB.out]
  go_wp2_with fail
  refine (isl_any q _ n c ls _ m d ts _ hn (HR.out.below a2) hm (HT.out.below a2)).mono ?_
  rintro e w3 ⟨v, rfl, hO, hb3⟩
  have a3 : Below w.heap.size w w3 := a2.trans (hb3.mono a2.size)
  have k3 := Lib.hid (k2.out.keep hb3)
  have hU3 := HU.out.below a3
  clear p0 p1 k2
  obtain ⟨p0, p1, _, _⟩ := k3.out.two
  rw [HF.out] at hO
  obtain ⟨A1, c1, rfl, _⟩ := hO.sl
  have hZ3 := hO.rowZ
  rw [ofN_len, islL_len] at hZ3 ⊢
  have HZ := Lib.hid hZ3
  have HU3 := Lib.hid hU3
  clear hO hZ3 hU3 HR HT HU HF HS
  generalize hes : edgesOn ls ts = es at *
  have HES := Lib.hid hes
  clear hes
  go_wp2_with fail
  clear hmk
  go_loopw [31] (fun i wr => ∃ k : Nat, k ≤ q ∧ i = .int .i64 k ∧ Below w3.heap.size w3 wr ∧ IsBlk wr w3.heap.size 32 (rowArr fU (sumTo5 es q us k))) (fun i _ => q - (intOf i).toNat)
  case atStart => exact ⟨0, by omega, rfl, below_bx _ _, by rw [sumTo5_zero]; exact IsBlk.new w3 _ _⟩
  case round =>
    obtain ⟨k, hk, rfl, hbel, hblk⟩ := hrel
    have KB := Lib.hid hblk
    clear hblk
    by_cases hlt : k < q
    · obtain ⟨b, off, z, rfl, hb, hkz, e0⟩ := HZ.out.at_ hlt
      rw [← hbel.cell (p := ⟨b, off + k, none⟩) hb] at e0
      obtain ⟨b', off', u, rfl, hb', hku, g0, g1⟩ := HU3.out.at_ hlt
      rw [← hbel.cell (p := ⟨b', off' + k * 2, none⟩) hb'] at g0
      rw [← hbel.cell (p := ⟨b', off' + k * 2 + 1, none⟩) hb'] at g1
      rw [ofN_get (islL_get hlt)] at hkz
      injection hkz with hkz
      subst hkz
      have hh := leastF_lt (es := es) hlt
      have hsc := sumTo5_succ (es := es) (nb := q) (k := k) (us := us)
      rw [fd_at hku, ld_at hku] at hsc
      have hu4 := busesOk_at HB.out hku
      have hgt := sumTo5_get (es := es) (k := k) (us := us) hh
      have hs4 := sumAt_bd (es := es) (k := k) (h := leastF es k) HB.out (show k ≤ 8 by omega)
      generalize leastF es k = h at *
      generalize sumAt es us k h = s at *
      obtain ⟨x, y⟩ := u
      obtain ⟨s1, s2⟩ := s
      simp only at g0 g1 hu4 hs4 hsc
      have hput := putAll_set (f := fU) fU_len (xs := sumTo5 es q us k) (k := h) (by rw [sumTo5_len]; exact hh) (s1 + x, s2 + y)
      rw [← hsc] at hput
      have HP := Lib.hid hput
      have hget := rowArr_get (f := fU) fU_len hgt
      have c0 : wr.cell? ⟨w3.heap.size, h * 2, none⟩ = some (.int .i64 s1) := (KB.out.cell _).trans (hget 0 (by omega))
      have c1' : ∀ z, ((rowArr fU (sumTo5 es q us k)).setIfInBounds (h * 2) z)[h * 2 + 1]? = some (.int .i64 s2) := fun z => by
        rw [Array.getElem?_setIfInBounds_ne (by omega)]; exact hget 1 (by omega)
      have HC1 := Lib.hid c1'
      have f0 : wr.frozen? ⟨w3.heap.size, h * 2, none⟩ = false := KB.out.thaw _
      have i0 : (0 : Int) ≤ (k : Int) := by omega
      have i1 : (k : Int) < (q : Int) := by omega
      have i2 : (0 : Int) ≤ (h : Int) := by omega
      have i3 : (h : Int) < (q : Int) := by omega
      have v1 : IntKind.i64.wrap (s1 + x) = s1 + x := IntWalk.i64_in _ (by omega)
      have v2 : IntKind.i64.wrap (s2 + y) = s2 + y := IntWalk.i64_in _ (by omega)
      obtain ⟨_, _, _, _⟩ := hu4
      obtain ⟨_, _, _, _⟩ := hs4
      clear hsc hgt hput hget hku c1'
      go_wp2
      go_still_tail 13, (by kernel_rfl)
      change wpList _ _ _ _ _ wr.drew
      have f1 : wr.drew.frozen? ⟨w3.heap.size, h * 2, none⟩ = false := f0
      have c1 : wr.drew.cell? ⟨w3.heap.size, h * 2, none⟩ = some (.int .i64 s1) := c0
      have G1 : wr.drew.cell? ⟨b', off' + k * 2 + 1, none⟩ = some (.int .i64 y) := g1
      have KD := Lib.hid (show IsBlk wr.drew w3.heap.size 32 _ from KB.out)
      have HBD := Lib.hid hbel.drew
      clear c0 f0 g0 g1 e0 hbel
      generalize wr.drew = W0 at *
      go_wp2
      have G2 : (W0.setCell ⟨w3.heap.size, h * 2, none⟩ (.int .i64 (s1 + x))).cell? ⟨b', off' + k * 2 + 1, none⟩ = some (.int .i64 y) := (World.cell?_setCell_other _ _ _ _ (fun e => by injection e with e; omega)).trans G1
      have K2 := Lib.hid (KD.out.put (h * 2) (.int .i64 (s1 + x)))
      have c2 := (K2.out.cell (h * 2 + 1)).trans (HC1.out _)
      have f2 : (W0.setCell ⟨w3.heap.size, h * 2, none⟩ (.int .i64 (s1 + x))).frozen? ⟨w3.heap.size, h * 2 + 1, none⟩ = false := K2.out.thaw _
      have HB2 := Lib.hid (HBD.out.setCell (Nat.le_refl _) (.int .i64 (s1 + x)) (p := ⟨w3.heap.size, h * 2, none⟩))
      clear c1 f1 G1 KD HBD
      generalize W0.setCell ⟨w3.heap.size, h * 2, none⟩ (.int .i64 (s1 + x)) = W1 at *
      go_still_tail 13, (by kernel_rfl)
      change wpList _ _ _ _ _ W1.drew
      have f3 : W1.drew.frozen? ⟨w3.heap.size, h * 2 + 1, none⟩ = false := f2
      have c3 : W1.drew.cell? ⟨w3.heap.size, h * 2 + 1, none⟩ = some (.int .i64 s2) := c2
      go_wp2
      go_roundw
      case rel => exact ⟨k + 1, by omega, by go_num, HB2.out.drew.setCell (Nat.le_refl _) _, by rw [← HP.out]; exact K2.out.put (h * 2 + 1) (.int .i64 (s2 + y))⟩
      case measure => simp [intOf]; omega
    · obtain rfl : k = q := by omega
      rw [← sumBack_zero] at KB
      go_wp2
      go_loopw [65] (fun i wr => ∃ j : Nat, j ≤ k ∧ i = .int .i64 j ∧ Below w3.heap.size w3 wr ∧ IsBlk wr w3.heap.size 32 (rowArr fU (sumBack es k us j))) (fun i _ => k - (intOf i).toNat)
      case atStart => exact ⟨0, by omega, rfl, hbel, KB.out⟩
      case round =>
        obtain ⟨j, hj, rfl, hbel2, hblk⟩ := hrel
        have KJ := Lib.hid hblk
        clear hblk KB hbel
        by_cases hlt2 : j < k
        · obtain ⟨b, off, z, rfl, hb, hkz, e0⟩ := HZ.out.at_ hlt2
          rw [← hbel2.cell (p := ⟨b, off + j, none⟩) hb] at e0
          rw [ofN_get (islL_get hlt2)] at hkz
          injection hkz with hkz
          subst hkz
          have hh := leastF_lt (es := es) hlt2
          have hsc := sumBack_succ (es := es) (nb := k) (k := j) (us := us)
          have hgt := sumBack_num (es := es) (k := j) (us := us) hlt2
          have hgo := sumBack_get (es := es) (k := j) (us := us) hlt2
          generalize leastF es j = h at *
          generalize sumAt es us k h = s at *
          generalize sumAt es us k _ = o at hgo
          obtain ⟨s1, s2⟩ := s
          have hput := putAll_set (f := fU) fU_len (xs := sumBack es k us j) (k := j) (by rw [sumBack_len]; exact hlt2) (s1, s2)
          rw [← hsc] at hput
          have HP := Lib.hid hput
          have hget := rowArr_get (f := fU) fU_len hgt
          have hget2 := rowArr_get (f := fU) fU_len hgo
          have c0 : wr.cell? ⟨w3.heap.size, h * 2, none⟩ = some (.int .i64 s1) := (KJ.out.cell _).trans (hget 0 (by omega))
          have c1 : wr.cell? ⟨w3.heap.size, h * 2 + 1, none⟩ = some (.int .i64 s2) := (KJ.out.cell _).trans (hget 1 (by omega))
          have d0 : wr.cell? ⟨w3.heap.size, j * 2, none⟩ = some (.int .i64 o.1) := (KJ.out.cell _).trans (hget2 0 (by omega))
          have d1 : wr.cell? ⟨w3.heap.size, j * 2 + 1, none⟩ = some (.int .i64 o.2) := (KJ.out.cell _).trans (hget2 1 (by omega))
          have f0 : wr.frozen? ⟨w3.heap.size, j * 2, none⟩ = false := KJ.out.thaw _
          have f1 : wr.frozen? ⟨w3.heap.size, j * 2 + 1, none⟩ = false := KJ.out.thaw _
          have i0 : (0 : Int) ≤ (j : Int) := by omega
          have i1 : (j : Int) < (k : Int) := by omega
          have i2 : (0 : Int) ≤ (h : Int) := by omega
          have i3 : (h : Int) < (k : Int) := by omega
          clear hsc hgt hgo hput hget hget2
          go_wp2
          go_roundw
          case rel => exact ⟨j + 1, by omega, by go_num, (hbel2.setCell (Nat.le_refl _) _).setCell (Nat.le_refl _) _, by rw [← HP.out]; exact (KJ.out.put _ _).put _ _⟩
          case measure => simp [intOf]; omega
        · obtain rfl : j = k := by omega
          rw [sumBack_all] at KJ
          go_wp2
          go_ret
          exact ⟨_, rfl, a3.size, by rw [HES.out]; exact KJ.out, a3.trans (hbel2.mono a3.size)⟩
end Go.Proofs.YtobbmnbkjeoheaaDoor
