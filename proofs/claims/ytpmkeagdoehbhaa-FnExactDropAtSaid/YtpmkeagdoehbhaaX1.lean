/- Drops, of the program: ohmsValid, dropsOf. -/
import Derived.Test.YtpmkeagdoehbhaaX0
import Derived.Test.YtpmkeagdoehbhaaBXC
import Derived.Test.YtpmkeagdoehbhaaBHE
import Derived.Test.YtpmkeagdoehbhaaH8
namespace Go.Proofs.Ytpmkeagdoehbhaa
open Go.ChangeShapes Go.WideShapes Go.ChangeAt Go.RowKit

set_option maxRecDepth 100000 in
set_option maxHeartbeats 1000000 in
theorem ohmsValid_any (bs : Int) (A : Option Addr) (n c : Nat) (O : Option Addr) (p s : Nat) (os : List Int) (w : World) (_hn : n ≤ 1048576) (hp : p ≤ 1048576) (ho : RowZ w O p os) :
    Calls Try.prog 49 #[.agg #[.int .i64 bs, .slice A n c], .slice O p s] w fun e w' => e = .returned (.bool (ohmOk n os)) ∧ Below w.heap.size w w' := by
  have HOL := Lib.hid ho.len
  have b0 := below_bx w (.cells #[.int .i64 bs, .slice A n c] 33)
  have HO := Lib.hid (ho.below b0)
  have K0 := Lib.hid (IsBlk.new w 33 #[.int .i64 bs, .slice A n c])
  clear ho
  by_cases hl : p = n
  · subst hl
    go_enter Try.func49, Try.ntmps49
    go_upto_region 1 with fail
    generalize w.alloc (.cells #[.int .i64 bs, .slice A p c] 33) = w1 at *
    obtain ⟨p0, p1, _, _⟩ := K0.out.two
    go_wp2
    clear p0 p1
    go_loopw [15] (fun i wr => ∃ k : Nat, k ≤ p ∧ i = .int .i64 k ∧ wr = w1 ∧ ohmTo os k) (fun i _ => p - (intOf i).toNat)
    case atStart => exact ⟨0, by omega, rfl, rfl, fun j o hj => absurd hj (by omega)⟩
    case round =>
      obtain ⟨k, hk, rfl, rfl, hto⟩ := hrel
      have HTO := Lib.hid hto
      clear hto
      by_cases hlt : k < p
      · obtain ⟨b, off, z, rfl, hb, hkz, c0⟩ := HO.out.at_ hlt
        have HKZ := Lib.hid hkz
        have ii0 : (0 : Int) ≤ (k : Int) := by omega
        have ii1 : (k : Int) < (p : Int) := by omega
        clear hkz
        cases hw : inB z 0 9
        · have HB := Lib.hid (ohm_bad (m := p) HKZ.out hw)
          go_wp2_with fail
          refine (within_any z 0 9 _).mono ?_
          rintro e w2 ⟨rfl, rfl⟩
          rw [hw]
          go_wp2
          go_ret
          exact ⟨retB HB.out.symm, b0⟩
        · have HN := Lib.hid (ohmTo_next HTO.out HKZ.out hw)
          go_wp2_with fail
          refine (within_any z 0 9 _).mono ?_
          rintro e w2 ⟨rfl, rfl⟩
          rw [hw]
          go_wp2
          go_roundw
          case rel => exact ⟨k + 1, by omega, by go_num, by trivial, HN.out⟩
          case measure => simp [intOf]; omega
      · obtain rfl : k = p := by omega
        have HY := Lib.hid (ohmTo_all HOL.out HTO.out)
        go_wp2
        go_ret
        exact ⟨retB HY.out.symm, b0⟩
  · have HB := Lib.hid (show ohmOk n os = false from ohm_short (by rw [HOL.out]; exact hl))
    have hne : ((p : Int) == (n : Int)) = false := by simp; omega
    go_enter Try.func49, Try.ntmps49
    go_wp2
    go_ret
    exact ⟨retB HB.out.symm, b0⟩

set_option maxRecDepth 100000 in
set_option maxHeartbeats 2000000 in
theorem dropsOf_bad (bs : Int) (A : Option Addr) (n c : Nat) (ls : List L3) (B : Option Addr) (m d : Nat) (ts : List Bool) (U : Option Addr) (q r : Nat) (us : List U2) (O : Option Addr) (p s : Nat) (os : List Int) (w : World) (hn : n ≤ 1048576) (hr : RowL w A n ls) (hm : m ≤ 1048576) (hrt : RowT w B m ts) (hq : q ≤ 1048576) (hu : RowU w U q us) (hp : p ≤ 1048576) (hro : RowZ w O p os)
    (h : okO bs ls ts us os = false) :
    Calls Try.prog 31 #[.agg #[.int .i64 bs, .slice A n c], .slice B m d, .slice U q r, .slice O p s] w fun e w' => e = .returned (.slice none 0 0) ∧ Below w.heap.size w w' := by
  have HR := Lib.hid hr
  have HT := Lib.hid hrt
  have HU := Lib.hid hu
  have HRO := Lib.hid hro
  have HTL := Lib.hid hrt.len
  have HLL := Lib.hid hr.1
  have b0 := below_bx w (.cells #[.int .i64 bs, .slice A n c] 33)
  have K0 := Lib.hid (IsBlk.new w 33 #[.int .i64 bs, .slice A n c])
  clear hr hrt hu hro
  cases hrad : radF bs ls ts us
  · have HO := Lib.hid hrad
    clear hrad h
    go_enter Try.func31, Try.ntmps31
    go_wp2_with fail
    refine (flowsOf_bad bs _ n c ls _ m d ts _ q r us _ hn (HR.out.below b0) hm (HT.out.below b0) hq (HU.out.below b0) HO.out).mono ?_
    rintro e w1 ⟨rfl, hb1⟩
    have a1 := b0.trans (hb1.mono b0.size)
    go_wp2
    go_ret
    exact ⟨rfl, a1.alloc a1.size _⟩
  · have hok := (radF_iff.1 hrad).1
    have hbs := okU_bs hok
    have hmn : m = n := by have := (stOk_len (okU_st hok)).1; rw [HTL.out] at this; have := HLL.out; omega
    subst hmn
    have HBAD := Lib.hid (show ohmOk m os = false by
      rw [okO, hrad, Bool.true_and, HTL.out] at h; exact h)
    obtain ⟨nb, rfl⟩ := Int.eq_ofNat_of_zero_le (show 0 ≤ bs by omega)
    have HO := Lib.hid hrad
    clear hrad hok hbs h
    go_enter Try.func31, Try.ntmps31
    go_wp2_with fail
    refine (flowsOf_ok nb _ m c ls _ m d ts _ q r us _ hn (HR.out.below b0) hm (HT.out.below b0) hq (HU.out.below b0) HO.out).mono ?_
    rintro e w1 ⟨gL, gB, rfl, hL, hB, hb1⟩
    have a1 := b0.trans (hb1.mono b0.size)
    have b2 := Lib.hid (a1.alloc a1.size (.cells #[.slice (some ⟨gL, 0, none⟩) m m, .slice (some ⟨gB, 0, none⟩) nb nb] 74))
    obtain ⟨p0, p1, _, _⟩ := ((K0.out.keep hb1).alloc (.cells #[.slice (some ⟨gL, 0, none⟩) m m, .slice (some ⟨gB, 0, none⟩) nb nb] 74)).two
    clear hL hB
    go_wp2_with fail
    refine (ohmsValid_any nb _ m c _ p s os _ hn hp (HRO.out.below b2.out)).mono ?_
    rintro e w2 ⟨rfl, hb2⟩
    rw [HBAD.out]
    go_wp2
    go_ret
    exact ⟨rfl, b2.out.trans (hb2.mono b2.out.size)⟩

/-- The drops of the first k buses are reckoned. -/
noncomputable def drpTo (ls : List L3) (ts : List Bool) (us : List U2) (os : List Int) (nb k : Nat) : List Int := (List.range nb).map fun b => if b < k then drpV ls ts us os nb b else 0
section
variable {ls : List L3} {ts : List Bool} {us : List U2} {os : List Int} {nb k b : Nat}
theorem drpTo_len : (drpTo ls ts us os nb k).length = nb := by simp [drpTo]
theorem drpTo_get (hb : b < nb) : (drpTo ls ts us os nb k)[b]? = some (if b < k then drpV ls ts us os nb b else 0) := by rw [drpTo, List.getElem?_map, List.getElem?_range hb]; rfl
theorem drpTo_zero : drpTo ls ts us os nb 0 = List.replicate nb 0 := by
  apply List.ext_getElem?
  intro i
  rcases Nat.lt_or_ge i nb with hi | hi
  · rw [drpTo_get hi, List.getElem?_replicate, if_pos hi]; rfl
  · rw [List.getElem?_eq_none (by rw [drpTo_len]; exact hi), List.getElem?_eq_none (by simpa using hi)]
theorem drpTo_all : drpTo ls ts us os nb nb = drpL ls ts us os nb := by
  apply List.ext_getElem?
  intro i
  rcases Nat.lt_or_ge i nb with hi | hi
  · rw [drpTo_get hi, drpL_get hi, if_pos hi]
  · rw [List.getElem?_eq_none (by rw [drpTo_len]; exact hi), List.getElem?_eq_none (by rw [drpL_len]; exact hi)]
theorem drpTo_next : drpTo ls ts us os nb (k + 1) = (drpTo ls ts us os nb k).set k (drpV ls ts us os nb k) := by
  apply List.ext_getElem?
  intro i
  rcases Nat.lt_or_ge i nb with hi | hi
  · rw [drpTo_get hi, List.getElem?_set]
    by_cases e : k = i
    · subst e
      rw [if_pos rfl, if_pos (by omega), if_pos (by rw [drpTo_len]; exact hi)]
    · rw [if_neg e, drpTo_get hi]
      congr 1
      by_cases h1 : i < k
      · rw [if_pos h1, if_pos (by omega)]
      · rw [if_neg h1, if_neg (by omega)]
  · rw [List.getElem?_eq_none (by rw [drpTo_len]; exact hi), List.getElem?_eq_none (by rw [List.length_set, drpTo_len]; exact hi)]
theorem drpTo_same (hk : k < nb) : (drpTo ls ts us os nb k).set k 0 = drpTo ls ts us os nb k := by
  have e := drpTo_get (ls := ls) (ts := ts) (us := us) (os := os) (nb := nb) (k := k) hk
  rw [if_neg (Nat.lt_irrefl k)] at e
  obtain ⟨h1, h2⟩ := List.getElem?_eq_some_iff.1 e
  conv => rhs; rw [← List.set_getElem_self h1, h2]
end
/-- The drops in the making: a block of its own, all below it as it was. -/
structure DropSt (W0 W : World) (g : Nat) (zs : List Int) : Prop where
  at_ : g = W0.heap.size
  blk : IsBlk W g 3 (zB zs)
  bel : Below W0.heap.size W0 W
section
variable {W0 W W' : World} {g : Nat} {zs : List Int}
theorem DropSt.next (h : DropSt W0 W g zs) (hb : Below W.heap.size W W') : DropSt W0 W' g zs := ⟨h.at_, h.blk.keep hb, h.bel.trans (hb.mono h.bel.size)⟩
theorem DropSt.drew (h : DropSt W0 W g zs) : DropSt W0 W.drew g zs := ⟨h.at_, h.blk, h.bel.drew⟩
theorem DropSt.put (h : DropSt W0 W g zs) (k : Nat) (z : Int) : DropSt W0 (W.setCell ⟨g, k, none⟩ (.int .i64 z)) g (zs.set k z) := by
  have hp := h.blk.put k (.int .i64 z)
  rw [zB_put] at hp
  exact ⟨h.at_, hp, h.bel.setCell (by rw [h.at_]; exact Nat.le_refl _) _⟩
theorem DropSt.cell (h : DropSt W0 W g zs) {k : Nat} {z : Int} (hk : zs[k]? = some z) : W.cell? ⟨g, k, none⟩ = some (.int .i64 z) := (h.blk.cell k).trans (zB_get hk)
end

set_option maxRecDepth 100000 in
set_option maxHeartbeats 4000000 in
theorem dropsOf_ok (nb : Nat) (A : Option Addr) (n c : Nat) (ls : List L3) (B : Option Addr) (m d : Nat) (ts : List Bool) (U : Option Addr) (q r : Nat) (us : List U2) (O : Option Addr) (p s : Nat) (os : List Int) (w : World) (hn : n ≤ 1048576) (hr : RowL w A n ls) (hm : m ≤ 1048576) (hrt : RowT w B m ts) (hq : q ≤ 1048576) (hu : RowU w U q us) (hp : p ≤ 1048576) (hro : RowZ w O p os)
    (h : okO nb ls ts us os = true) :
    Calls Try.prog 31 #[.agg #[.int .i64 (nb : Int), .slice A n c], .slice B m d, .slice U q r, .slice O p s] w fun e w' => ∃ g, e = .returned (.slice (some ⟨g, 0, none⟩) nb nb) ∧ RowZ w' (some ⟨g, 0, none⟩) nb (drpL ls ts us os nb) ∧ Below w.heap.size w w' := by
  have HOKO := Lib.hid h
  obtain ⟨hrad, hoh⟩ := okO_iff.1 h
  obtain ⟨hok, ha, ho⟩ := radF_iff.1 hrad
  have hbs := okU_bs hok
  have hnb : nb ≤ 8 := by omega
  have hlen := stOk_len (okU_st hok)
  have hmn : m = n := by have := hrt.len; have := hr.1; omega
  subst hmn
  have hm10 : m ≤ 10 := by have := hrt.len; omega
  have HOH := Lib.hid (show ohmOk m os = true by rw [← hrt.len]; exact hoh)
  have hpm : p = m := by have := ohmOk_len HOH.out; have := hro.len; omega
  subst hpm
  have HS := Lib.hid (okU_st hok)
  have HBU := Lib.hid (okU_bu hok)
  have HA := Lib.hid ha
  have HOF := Lib.hid ho
  have HO := Lib.hid hrad
  have HUL := Lib.hid (show us.length = nb by have := busesOk_len HBU.out; omega)
  have HTL := Lib.hid hrt.len
  have HR := Lib.hid hr
  have HT := Lib.hid hrt
  have HU := Lib.hid hu
  have HRO := Lib.hid hro
  have b0 := below_bx w (.cells #[.int .i64 (nb : Int), .slice A p c] 33)
  have K0 := Lib.hid (IsBlk.new w 33 #[.int .i64 (nb : Int), .slice A p c])
  have hmk := makeIntsN nb (by omega)
  clear hr hrt hu hro h hrad hoh hok ha ho hbs hlen
  go_enter Try.func31, Try.ntmps31
  go_wp2_with fail
  refine (flowsOf_ok nb _ p c ls _ p d ts _ q r us _ hn (HR.out.below b0) hm (HT.out.below b0) hq (HU.out.below b0) HO.out).mono ?_
  rintro e w1 ⟨gL, gB, rfl, hL, hB, hb1⟩
  have a1 := b0.trans (hb1.mono b0.size)
  have b2 := Lib.hid (a1.alloc a1.size (.cells #[.slice (some ⟨gL, 0, none⟩) p p, .slice (some ⟨gB, 0, none⟩) nb nb] 74))
  have KF := Lib.hid (IsBlk.new w1 74 #[.slice (some ⟨gL, 0, none⟩) p p, .slice (some ⟨gB, 0, none⟩) nb nb])
  have K2 := Lib.hid ((K0.out.keep hb1).alloc (.cells #[.slice (some ⟨gL, 0, none⟩) p p, .slice (some ⟨gB, 0, none⟩) nb nb] 74))
  have HL := Lib.hid (hL.below (below_bx w1 (.cells #[.slice (some ⟨gL, 0, none⟩) p p, .slice (some ⟨gB, 0, none⟩) nb nb] 74)))
  obtain ⟨p0, p1, _, _⟩ := K2.out.two
  clear hL hB K0
  go_wp2_with fail
  refine (ohmsValid_any nb _ p c _ p s os _ hn hp (HRO.out.below b2.out)).mono ?_
  rintro e w2 ⟨rfl, hb2⟩
  rw [HOH.out]
  have b3 := Lib.hid (b2.out.trans (hb2.mono b2.out.size))
  have KF3 := Lib.hid (KF.out.keep hb2)
  have K3 := Lib.hid (K2.out.keep hb2)
  have HL3 := Lib.hid (HL.out.below hb2)
  clear p0 p1 KF K2 HL hb2 b2
  obtain ⟨p0, p1, _, _⟩ := K3.out.two
  go_wp2_with fail
  refine (suppliesOf_ok nb _ p c ls _ p d ts _ q r us _ hn (HR.out.below b3.out) hm (HT.out.below b3.out) hq (HU.out.below b3.out) HO.out).mono ?_
  rintro e w3 ⟨g, Aq, cq, zs, rfl, hg, hblk, hb3, _, _, _, _⟩
  have b4 := Lib.hid (b3.out.trans (hb3.mono b3.out.size))
  have KF4 := Lib.hid (KF3.out.keep hb3)
  have K4 := Lib.hid (K3.out.keep hb3)
  have HL4 := Lib.hid (HL3.out.below hb3)
  have HSU := Lib.hid hblk
  have S0 := Lib.hid (show DropSt w3 (w3.alloc (.cells (madeCells (Value.int .i64 0).cells nb) 3)) w3.heap.size (drpTo ls ts us os nb 0) from
    ⟨rfl, by rw [drpTo_zero, ← zB_made]; exact IsBlk.new w3 _ _, below_bx w3 _⟩)
  clear p0 p1 KF3 K3 HL3 hb3 b3 hblk hg
  obtain ⟨p0, p1, _, _⟩ := K4.out.two
  have hgl := HSU.out.lt
  have hFl := KF4.out.lt
  go_wp2
  clear p0 p1 hmk
  generalize hGD : w3.heap.size = G at *
  have HGD := Lib.hid hGD
  clear hGD
  go_loopw [45] (fun i wr => ∃ k : Nat, k ≤ nb ∧ i = .int .i64 k ∧ DropSt w3 wr G (drpTo ls ts us os nb k)) (fun i _ => nb - (intOf i).toNat)
  case atStart => exact ⟨0, by omega, rfl, S0.out⟩
  case round =>
    obtain ⟨k, hk, rfl, hst⟩ := hrel
    have SK := Lib.hid hst
    clear hst S0
    by_cases hlt : k < nb
    · have HSK := Lib.hid (HSU.out.keep SK.out.bel)
      have hget := rowArr_get (f := fU) fU_len (supF_get (ls := ls) (ts := ts) (us := us) hlt)
      have c0 := (HSK.out.cell (k * 2)).trans (hget 0 (by omega))
      have c1 := (HSK.out.cell (k * 2 + 1)).trans (hget 1 (by omega))
      simp only [fU] at c0 c1
      have hGk := SK.out.cell (drpTo_get (ls := ls) (ts := ts) (us := us) (os := os) (k := k) hlt)
      have fGk := SK.out.blk.thaw k
      have hGl := SK.out.blk.lt
      have ii0 : (0 : Int) ≤ (k : Int) := by omega
      have ii1 : (k : Int) < (nb : Int) := by omega
      have hbw := b4.out.trans (SK.out.bel.mono b4.out.size)
      generalize hY : hd1 (wayF ls ts us k) = Y at *
      clear hget hY
      cases hfed : fedB (edgesOn ls ts) us k
      · rw [feedOf_none hfed nb] at c0
        replace c0 : wr.cell? ⟨g, k * 2, none⟩ = some (.int .i64 (-1)) := c0
        replace c1 : wr.cell? ⟨g, k * 2 + 1, none⟩ = some (.int .i64 Y) := c1
        have HN := Lib.hid (show drpTo ls ts us os nb (k + 1) = (drpTo ls ts us os nb k).set k (-1) by rw [drpTo_next, drpV, if_neg (by rw [hfed]; simp)])
        have SN := Lib.hid ((SK.out.put k (-1)).next (below_bx _ (.cells #[.int .i64 (-1), .int .i64 Y] 82)))
        obtain ⟨q0, q1, _, _⟩ := (IsBlk.new wr 82 #[.int .i64 (-1), .int .i64 Y]).two
        have cG := ((below_bx wr (.cells #[.int .i64 (-1), .int .i64 Y] 82)).cell (p := ⟨G, k, none⟩) hGl).trans hGk
        have fG := (SK.out.blk.alloc (.cells #[.int .i64 (-1), .int .i64 Y] 82)).thaw k
        clear hGk fGk hfed
        generalize (if k < k then drpV ls ts us os nb k else 0) = Z0 at *
        go_wp2
        go_roundw
        case rel => exact ⟨k + 1, by omega, by go_num, by rw [HN.out]; exact SN.out⟩
        case measure => simp [intOf]; omega
      · obtain ⟨f, hf, hcf⟩ := fedB_iff.1 hfed
        rw [feedOf_some HOF.out hf hcf HUL.out] at c0
        replace c0 : wr.cell? ⟨g, k * 2, none⟩ = some (.int .i64 (f : Int)) := c0
        replace c1 : wr.cell? ⟨g, k * 2 + 1, none⟩ = some (.int .i64 Y) := c1
        have hf0 : ¬ (f : Int) < 0 := by omega
        have HN := Lib.hid (show drpTo ls ts us os nb (k + 1) = (drpTo ls ts us os nb k).set k (drp ls ts us os nb k) by rw [drpTo_next, drpV, if_pos hfed])
        have hb5 := below_bx wr (.cells #[.int .i64 (f : Int), .int .i64 Y] 82)
        have S5 := Lib.hid (SK.out.next hb5)
        have HS5 := Lib.hid (HSK.out.alloc (.cells #[.int .i64 (f : Int), .int .i64 Y] 82))
        have a5 : Below w.heap.size w (wr.alloc (.cells #[.int .i64 (f : Int), .int .i64 Y] 82)) := hbw.trans (hb5.mono hbw.size)
        obtain ⟨q0, q1, _, _⟩ := (IsBlk.new wr 82 #[.int .i64 (f : Int), .int .i64 Y]).two
        obtain ⟨p0, p1, _, _⟩ := (K4.out.keep S5.out.bel).two
        have hgs5 : G < (wr.alloc (.cells #[.int .i64 (f : Int), .int .i64 Y] 82)).heap.size := by rw [World.size_alloc]; omega
        have hwl := wayF_len HA.out HOF.out k
        have HWLEN := Lib.hid (show (wayF ls ts us k).reverse.length ≤ 10 by rw [List.length_reverse]; have := HTL.out; omega)
        have HDRP := Lib.hid (show drp ls ts us os nb k = lsum (lossF ls ts us os nb) (wayF ls ts us k).reverse (wayF ls ts us k).reverse.length from rfl)
        have HMEM := Lib.hid (fun (l : Nat) (hl : l ∈ (wayF ls ts us k).reverse) => show l < p by
          have h1 := (wayF_on (List.mem_reverse.1 hl) HA.out HOF.out).1
          have h2 := HTL.out
          omega)
        clear hGk fGk hfed hf hcf hwl
        go_wp2_with fail
        refine (pathTo_any nb _ p c ls ts us g k _ (HR.out.below a5) HS.out HA.out HOF.out HS5.out hlt).mono ?_
        rintro e w5 ⟨v2, rfl, hO5, hb6⟩
        have hlt5 := OwnI.lt hO5
        obtain ⟨A2, c2, rfl, hZ5⟩ := hO5.sl
        have S6 := Lib.hid (S5.out.next hb6)
        have HFAR := Lib.hid (show ∀ b off, A2 = some ⟨b, off, none⟩ → b ≠ G from fun b off e => by subst e; have := (hlt5 b rfl).1; omega)
        have HZ6 := Lib.hid hZ5
        rw [ofN_len] at HZ6 ⊢
        generalize (wayF ls ts us k).reverse = way at *
        clear hO5 hZ5 hlt5 hb6 S5 HS5 p0 p1 q0 q1 c0 c1 hb5 a5 hbw hGl hgs5 SK HSK
        have hle10 := HWLEN.out
        go_wp2
        go_loopw [61] (fun i wx => ∃ j : Nat, j ≤ way.length ∧ i = .int .i64 j ∧ DropSt w3 wx G ((drpTo ls ts us os nb k).set k (lsum (lossF ls ts us os nb) way j)) ∧ RowZ wx A2 way.length (ofN way)) (fun i _ => way.length - (intOf i).toNat)
        case atStart => exact ⟨0, by omega, rfl, by rw [show lsum (lossF ls ts us os nb) way 0 = 0 by simp [lsum], drpTo_same hlt]; exact S6.out, HZ6.out⟩
        case round =>
          obtain ⟨j, hj, rfl, hst, hzr⟩ := hrel
          have SJ := Lib.hid hst
          have HWJ := Lib.hid hzr
          clear hst hzr S6 HZ6
          by_cases hjl : j < way.length
          · obtain ⟨b2, off2, z, rfl, hbl2, hkz, e0⟩ := HWJ.out.at_ hjl
            have hjr : way[j]? = some (way[j]'hjl) := List.getElem?_eq_getElem hjl
            generalize (way[j]'hjl) = l at hjr
            rw [ofN_get hjr] at hkz
            injection hkz with hkz
            subst hkz
            have hlp := HMEM.out l (List.mem_of_getElem? hjr)
            obtain ⟨bL, offL, y, e9, hbL, hky, c0⟩ := (HL4.out.below SJ.out.bel).at_ hlp
            injection e9 with e9
            injection e9 with e91 e92
            subst e91 e92
            rw [floL_get hlp] at hky
            injection hky with hky
            subst hky
            rw [Nat.zero_add] at c0
            have hbx := b4.out.trans (SJ.out.bel.mono b4.out.size)
            obtain ⟨bO, offO, o, rfl, hbO, hko, c1⟩ := (HRO.out.below hbx).at_ hlp
            have HNX := Lib.hid (show lsum (lossF ls ts us os nb) way (j + 1) = lsum (lossF ls ts us os nb) way j + flo ls ts us nb l * o by rw [lsum_succ hjr, lossF, ohmAt_get hko])
            have hD := lossTo_bd (ls := ls) (ts := ts) HBU.out hnb HOH.out hle10 (show j ≤ way.length by omega)
            have hP := lossF_bd (ls := ls) (ts := ts) HBU.out hnb HOH.out l
            rw [lossF, ohmAt_get hko] at hP
            obtain ⟨f0, f1, _, _⟩ := (KF4.out.keep SJ.out.bel).two
            have hset : ((drpTo ls ts us os nb k).set k (lsum (lossF ls ts us os nb) way j))[k]? = some (lsum (lossF ls ts us os nb) way j) := List.getElem?_set_self (by rw [drpTo_len]; exact hlt)
            have cG := SJ.out.cell hset
            have fG := SJ.out.blk.thaw k
            generalize hLD : lsum (lossF ls ts us os nb) way j = D at *
            generalize flo ls ts us nb l = Z at *
            obtain ⟨P, hPe⟩ : ∃ P, Z * o = P := ⟨_, rfl⟩
            rw [hPe] at hP
            have HPE := Lib.hid hPe
            have hw1 : IntKind.i64.wrap (Z * o) = P := by rw [hPe]; exact IntWalk.i64_in _ (by omega)
            have hw2 : IntKind.i64.wrap (D + P) = D + P := IntWalk.i64_in _ (by omega)
            have S7 := Lib.hid (SJ.out.put k (D + P))
            rw [List.set_set] at S7
            have HW7 := Lib.hid (RowV.grown HWJ.out (grown_put wr G k (.int .i64 (D + P))) (fun b off e e2 => by injection e2 with e2; exact HFAR.out b off e e2.symm))
            have jj0 : (0 : Int) ≤ (j : Int) := by omega
            have jj1 : (j : Int) < (way.length : Int) := by omega
            have jj2 : (0 : Int) ≤ (l : Int) := by omega
            have jj3 : (l : Int) < (p : Int) := by omega
            clear hko hjr hset hLD hPe hbO hbL hbl2
            go_wp2
            go_region
            go_wp2
            go_roundw
            case rel => exact ⟨j + 1, by omega, by go_num, by rw [HNX.out, HPE.out]; exact S7.out.drew, HW7.out⟩
            case measure => simp [intOf]; omega
          · obtain rfl : j = way.length := by omega
            go_wp2
            go_roundw
            case rel => exact ⟨k + 1, by omega, by go_num, by rw [HN.out, HDRP.out]; exact SJ.out⟩
            case measure => simp [intOf]; omega
    · obtain rfl : k = nb := by omega
      have HALL := Lib.hid (drpTo_all (ls := ls) (ts := ts) (us := us) (os := os) (nb := k))
      go_wp2
      go_ret
      exact ⟨_, rfl, by rw [← HALL.out]; exact SK.out.blk.rowZ drpTo_len, b4.out.trans (SK.out.bel.mono b4.out.size)⟩
end Go.Proofs.Ytpmkeagdoehbhaa
