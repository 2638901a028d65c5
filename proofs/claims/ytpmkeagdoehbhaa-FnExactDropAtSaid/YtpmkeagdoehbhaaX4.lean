/- Drops, of the model: l8Ok, l8Drops, DropAt, l8Worst, WorstBus. -/
import Derived.Test.YtpmkeagdoehbhaaX2
import Derived.Test.YtpmkeagdoehbhaaC7
namespace Go.Proofs.Ytpmkeagdoehbhaa
open Go.ChangeShapes Go.WideShapes Go.ChangeAt Go.RowKit

set_option maxRecDepth 100000 in
set_option maxHeartbeats 1000000 in
theorem l8Ok_any (bs : Int) (A : Option Addr) (n c : Nat) (ls : List L3) (B : Option Addr) (m d : Nat) (ts : List Bool) (U : Option Addr) (q r : Nat) (us : List U2) (O : Option Addr) (p s : Nat) (os : List Int) (w : World) (hn : n ≤ 1048576) (hr : RowL w A n ls) (hm : m ≤ 1048576) (hrt : RowT w B m ts) (hq : q ≤ 1048576) (hu : RowU w U q us) (hp : p ≤ 1048576) (hro : RowZ w O p os) :
    Calls Try.prog 26 #[.agg #[.int .i64 bs, .slice A n c], .slice B m d, .slice U q r, .slice O p s] w fun e w' => e = .returned (.bool (okO bs ls ts us os)) ∧ Below w.heap.size w w' := by
  have b0 := below_bx w (.cells #[.int .i64 bs, .slice A n c] 33)
  have HR := Lib.hid (hr.below b0)
  have HT := Lib.hid (hrt.below b0)
  have HU := Lib.hid (hu.below b0)
  have HRO := Lib.hid (hro.below b0)
  have HTL := Lib.hid hrt.len
  have HOL := Lib.hid hro.len
  have K0 := Lib.hid (IsBlk.new w 33 #[.int .i64 bs, .slice A n c])
  clear hr hrt hu hro
  go_enter Try.func26, Try.ntmps26
  go_upto_region 1 with fail
  generalize w.alloc (.cells #[.int .i64 bs, .slice A n c] 33) = w1 at *
  go_wp2
  go_loopw [9] (fun i wr => ∃ k : Nat, k ≤ p ∧ i = .int .i64 k ∧ wr = w1 ∧ ohmTo os k) (fun i _ => p - (intOf i).toNat)
  case atStart => exact ⟨0, by omega, rfl, rfl, fun j o hj => absurd hj (by omega)⟩
  case round =>
    obtain ⟨k, hk, rfl, rfl, hto⟩ := hrel
    have HTO := Lib.hid hto
    clear hto
    by_cases hlt : k < p
    · obtain ⟨b, off, z, rfl, hb, hkz, c0⟩ := HRO.out.at_ hlt
      have HKZ := Lib.hid hkz
      have ii0 : (0 : Int) ≤ (k : Int) := by omega
      have ii1 : (k : Int) < (p : Int) := by omega
      clear hkz
      cases hw : inB z 0 9
      · have HB := Lib.hid (show okO bs ls ts us os = false by rw [okO, ohm_bad HKZ.out hw, Bool.and_false])
        go_wp2_with fail
        refine (l1In_any z 0 9 _).mono ?_
        rintro e w2 ⟨rfl, rfl⟩
        rw [hw]
        go_wp2
        go_ret
        exact ⟨retB HB.out.symm, b0⟩
      · have HN := Lib.hid (ohmTo_next HTO.out HKZ.out hw)
        go_wp2_with fail
        refine (l1In_any z 0 9 _).mono ?_
        rintro e w2 ⟨rfl, rfl⟩
        rw [hw]
        go_wp2
        go_roundw
        case rel => exact ⟨k + 1, by omega, by go_num, by trivial, HN.out⟩
        case measure => simp [intOf]; omega
    · obtain rfl : k = p := by omega
      obtain ⟨p0, p1, _, _⟩ := K0.out.two
      go_wp2_with fail
      refine (specRadial_any bs _ n c ls _ m d ts _ q r us _ hn HR.out hm HT.out hq HU.out).mono ?_
      rintro e w2 ⟨rfl, hb2⟩
      have a2 := b0.trans (hb2.mono b0.size)
      cases hrad : radF bs ls ts us
      · have HB := Lib.hid (show okO bs ls ts us os = false by rw [okO, hrad]; rfl)
        go_wp2
        go_ret
        exact ⟨retB HB.out.symm, a2⟩
      · by_cases hl : k = m
        · have HY := Lib.hid (show okO bs ls ts us os = true by rw [okO, hrad, HTL.out, ohmTo_all (by rw [HOL.out]; exact hl) (by rw [← hl]; exact HTO.out)]; rfl)
          subst hl
          go_wp2
          go_ret
          exact ⟨retB HY.out.symm, a2⟩
        · have HB := Lib.hid (show okO bs ls ts us os = false by rw [okO, ohm_short (by rw [HOL.out, HTL.out]; exact hl), Bool.and_false])
          have hne : ((k : Int) == (m : Int)) = false := by simp; omega
          go_wp2
          go_ret
          exact ⟨retB HB.out.symm, a2⟩

/-- While a list grows beside two rows that are read. -/
structure TwoSt (w wr : World) (bs : Int) (n c : Nat) (A : Option Addr) (g1 n1 : Nat) (ys1 : List Int) (g2 n2 : Nat) (ys2 : List Int) (v : Value) (zs : List Int) : Prop where
  st : NumSt w wr bs n c A v zs
  r1 : RowZ wr (some ⟨g1, 0, none⟩) n1 ys1
  r2 : RowZ wr (some ⟨g2, 0, none⟩) n2 ys2
  l1 : g1 < wr.heap.size
  l2 : g2 < wr.heap.size
  f1 : v.ownBlock ≠ some g1
  f2 : v.ownBlock ≠ some g2
section
variable {w wr w' : World} {bs : Int} {n c : Nat} {A : Option Addr} {g1 n1 : Nat} {ys1 : List Int} {g2 n2 : Nat} {ys2 : List Int} {v : Value} {zs zs' : List Int}
theorem TwoSt.next (h : TwoSt w wr bs n c A g1 n1 ys1 g2 n2 ys2 v zs) (hb : Below wr.heap.size wr w') : TwoSt w w' bs n c A g1 n1 ys1 g2 n2 ys2 v zs :=
  ⟨h.st.next hb, h.r1.below hb, h.r2.below hb, Nat.lt_of_lt_of_le h.l1 hb.size, Nat.lt_of_lt_of_le h.l2 hb.size, h.f1, h.f2⟩
theorem TwoSt.push {g' n' cap' : Nat} (h : TwoSt w wr bs n c A g1 n1 ys1 g2 n2 ys2 v zs) (o : Obj) (hown : OwnI 3 w' (w.heap.size + 1) (.slice (some ⟨g', 0, none⟩) n' cap') zs') (hg : (wr.alloc o).grownBy w' v.ownBlock) (hat : v.ownBlock = some g' ∨ g' = (wr.alloc o).heap.size) :
    TwoSt w w' bs n c A g1 n1 ys1 g2 n2 ys2 (.slice (some ⟨g', 0, none⟩) n' cap') zs' := by
  have hs := hg.size
  have l1 := h.l1
  have l2 := h.l2
  simp only [World.size_alloc] at hs
  refine ⟨h.st.push o hown hg, RowV.grown (h.r1.below (below_bx wr o)) hg (fun b off e e2 => ?_), RowV.grown (h.r2.below (below_bx wr o)) hg (fun b off e e2 => ?_), by omega, by omega, fun e => ?_, fun e => ?_⟩
  · injection e with e; injection e with e; subst e; exact h.f1 e2
  · injection e with e; injection e with e; subst e; exact h.f2 e2
  · have e3 : g' = g1 := by simpa [Value.ownBlock] using e
    rcases hat with e4 | e4
    · exact h.f1 (by rw [e4, e3])
    · simp only [World.size_alloc] at e4; omega
  · have e3 : g' = g2 := by simpa [Value.ownBlock] using e
    rcases hat with e4 | e4
    · exact h.f2 (by rw [e4, e3])
    · simp only [World.size_alloc] at e4; omega
end
/-- The drops of the first k buses. -/
noncomputable def drpP (ls : List L3) (ts : List Bool) (us : List U2) (os : List Int) (nb k : Nat) : List Int := (List.range k).map (drpV ls ts us os nb)
theorem drpP_next (ls : List L3) (ts : List Bool) (us : List U2) (os : List Int) (nb k : Nat) : drpP ls ts us os nb (k + 1) = drpP ls ts us os nb k ++ [drpV ls ts us os nb k] := by
  rw [drpP, List.range_succ, List.map_append]; rfl
theorem drpP_len (ls : List L3) (ts : List Bool) (us : List U2) (os : List Int) (nb k : Nat) : (drpP ls ts us os nb k).length = k := by simp [drpP]
theorem hd1_ge (ws : List Nat) : -1 ≤ hd1 ws := by
  cases ws with
  | nil => exact Int.le_refl _
  | cons k ws => simp only [hd1]; omega

set_option maxRecDepth 100000 in
set_option maxHeartbeats 4000000 in
theorem l8Drops_any (nb : Nat) (A : Option Addr) (n c : Nat) (ls : List L3) (B : Option Addr) (m d : Nat) (ts : List Bool) (U : Option Addr) (q r : Nat) (us : List U2) (O : Option Addr) (p s : Nat) (os : List Int) (w : World) (hr : RowL w A n ls) (hrt : RowT w B m ts) (hu : RowU w U q us) (hro : RowZ w O p os)
    (h : okO nb ls ts us os = true) :
    Calls Try.prog 28 #[.agg #[.int .i64 (nb : Int), .slice A n c], .slice B m d, .slice U q r, .slice O p s] w fun e w' => ∃ v, e = .returned v ∧ OwnI 3 w' w.heap.size v (drpL ls ts us os nb) ∧ Below w.heap.size w w' := by
  obtain ⟨i0, hi, hz0, hz1, hz2⟩ := info_parts intInfo6
  have HI := Lib.hid hi
  obtain ⟨hrad, hoh⟩ := okO_iff.1 h
  obtain ⟨hok, ha, ho⟩ := radF_iff.1 hrad
  have hbs := okU_bs hok
  have hnb : nb ≤ 8 := by omega
  have hlen := stOk_len (okU_st hok)
  have hmn : m = n := by have := hrt.len; have := hr.1; omega
  subst hmn
  have hm10 : m ≤ 10 := by have := hrt.len; omega
  have HOH := Lib.hid (show ohmOk m os = true by rw [← hrt.len]; exact hoh)
  have hpm : p = m := by have := ohmOk_len HOH.out; have := hro.len; omega
  subst hpm
  have HS := Lib.hid (okU_st hok)
  have HBU := Lib.hid (okU_bu hok)
  have HA := Lib.hid ha
  have HOF := Lib.hid ho
  have HO := Lib.hid hrad
  have HTL := Lib.hid hrt.len
  have HR := Lib.hid hr
  have HT := Lib.hid hrt
  have HU := Lib.hid hu
  have HRO := Lib.hid hro
  have hbx := below_bx w (.cells #[.int .i64 (nb : Int), .slice A p c] 33)
  have BX := Lib.hid (IsBlk.new w 33 #[.int .i64 (nb : Int), .slice A p c])
  have hown0 := own_lit (w.alloc (.cells #[.int .i64 (nb : Int), .slice A p c] 33))
  simp only [World.size_alloc] at hown0
  have S0 := Lib.hid (show NumSt w ((w.alloc (.cells #[.int .i64 (nb : Int), .slice A p c] 33)).alloc (.cells #[] 3)) nb p c A (.slice (some ⟨w.heap.size + 1, 0, none⟩) 0 0) [] from
    ⟨hown0, hbx.alloc (by simp) _, BX.out.alloc (.cells #[] 3)⟩)
  have hsz0 : ((w.alloc (.cells #[.int .i64 (nb : Int), .slice A p c] 33)).alloc (.cells #[] 3)).heap.size = w.heap.size + 1 + 1 := by simp
  clear hr hrt hu hro h hrad hoh hok ha ho hbs hlen hi hown0 hbx BX
  go_enter Try.func28, Try.ntmps28
  go_upto_region 2 with fail
  generalize (w.alloc (.cells #[.int .i64 (nb : Int), .slice A p c] 33)).alloc (.cells #[] 3) = W0 at *
  obtain ⟨p0, p1, _, _⟩ := S0.out.box.two
  go_wp2_with fail
  refine (l6Parents_any nb _ p c ls _ p d ts _ q r us _ (HR.out.below S0.out.bel) (HT.out.below S0.out.bel) (HU.out.below S0.out.bel) HO.out).mono ?_
  rintro e w2 ⟨gp, cp, rfl, hO2, hb2⟩
  have S2 := Lib.hid (S0.out.next hb2)
  have HP2 := Lib.hid (OwnI.rowZ hO2)
  have hgp1 : w.heap.size + 1 < gp := by have := hO2.at1.1; omega
  have hgp2 : gp < w2.heap.size := hO2.at1.2.1
  clear S0 p0 p1 hO2 hb2
  obtain ⟨p0, p1, _, _⟩ := S2.out.box.two
  go_wp2_with fail
  refine (l7Flows_any nb _ p c ls _ p d ts _ q r us _ (HR.out.below S2.out.bel) (HT.out.below S2.out.bel) (HU.out.below S2.out.bel) HO.out).mono ?_
  rintro e w3 ⟨gf, rfl, hO3, hb3⟩
  have hgf1 : w2.heap.size ≤ gf := hO3.at1.1
  have S3 := Lib.hid (show TwoSt w w3 nb p c A gp nb (parF ls ts us nb) gf p (floL ls ts us nb p) (.slice (some ⟨w.heap.size + 1, 0, none⟩) 0 0) (drpP ls ts us os nb 0) from
    ⟨S2.out.next hb3, HP2.out.below hb3, OwnI.rowZ hO3, Nat.lt_of_lt_of_le hgp2 hb3.size, hO3.at1.2.1, by simp [Value.ownBlock]; omega, by simp [Value.ownBlock]; omega⟩)
  clear S2 HP2 p0 p1 hO3 hb3 hgp1 hgp2 hgf1 hsz0
  go_wp2
  go_loopw [9, 12] (fun v i wr => ∃ k : Nat, k ≤ nb ∧ i = .int .i64 k ∧ TwoSt w wr nb p c A gp nb (parF ls ts us nb) gf p (floL ls ts us nb p) v (drpP ls ts us os nb k)) (fun _ i _ => nb - (intOf i).toNat)
  case atStart => exact ⟨0, by omega, rfl, S3.out⟩
  case round =>
    obtain ⟨k, hk, rfl, hst⟩ := hrel
    have SK := Lib.hid hst
    obtain ⟨Av, cv, ev, _⟩ := hst.st.own.sl
    rw [drpP_len] at ev
    subst ev
    clear hst S3
    obtain ⟨p0, p1, _, _⟩ := SK.out.st.box.two
    by_cases hlt : k < nb
    · have hwl := wayF_len HA.out HOF.out k
      have HWL := Lib.hid (show (wayF ls ts us k).reverse.length ≤ 10 by rw [List.length_reverse]; have := HTL.out; omega)
      have HDRP := Lib.hid (show drp ls ts us os nb k = lsum (lossF ls ts us os nb) (wayF ls ts us k).reverse (wayF ls ts us k).reverse.length from rfl)
      have HMEM := Lib.hid (fun (l : Nat) (hl : l ∈ (wayF ls ts us k).reverse) => show l < p by
        have h1 := (wayF_on (List.mem_reverse.1 hl) HA.out HOF.out).1
        have h2 := HTL.out
        omega)
      have hpg := parF_get (ls := ls) (ts := ts) (us := us) hlt
      have HNX := Lib.hid (drpP_next ls ts us os nb k)
      have HLEN := Lib.hid (drpP_len ls ts us os nb k)
      have HPV := Lib.hid (show drpV ls ts us os nb k = if fedB (edgesOn ls ts) us k = true then drp ls ts us os nb k else -1 from rfl)
      obtain ⟨z, hz⟩ : ∃ z, (if fedB (edgesOn ls ts) us k = true then hd1 (wayF ls ts us k) else -2) = z := ⟨_, rfl⟩
      have hzi : (fedB (edgesOn ls ts) us k = true ∧ (z == -2) = false) ∨ (fedB (edgesOn ls ts) us k = false ∧ z = -2) := by
        cases hf : fedB (edgesOn ls ts) us k
        · rw [hf, if_neg (by decide)] at hz; exact .inr ⟨rfl, hz.symm⟩
        · rw [hf, if_pos rfl] at hz; have := hd1_ge (wayF ls ts us k); exact .inl ⟨rfl, by rw [beq_eq_false_iff_ne]; omega⟩
      rw [hz] at hpg
      have HPG := Lib.hid hpg
      have HZI := Lib.hid hzi
      have ii0 : (0 : Int) ≤ (k : Int) := by omega
      have ii1 : (k : Int) < (nb : Int) := by omega
      clear hwl hpg hzi hz
      go_wp2_with fail
      refine (l6Way_any nb _ p c ls ts us _ cp k _ (HR.out.below SK.out.st.bel) HS.out HA.out HOF.out SK.out.r1 hlt).mono ?_
      rintro e w5 ⟨v5, rfl, hO5, hb5⟩
      obtain ⟨A5, c5, rfl, hZ5⟩ := hO5.sl
      have S5 := Lib.hid (SK.out.next hb5)
      have HZ5 := Lib.hid hZ5
      rw [ofN_len] at HZ5 ⊢
      generalize (wayF ls ts us k).reverse = way at *
      clear hO5 hZ5 hb5 p0 p1 SK
      have hle10 := HWL.out
      go_wp2
      go_loopw [13, 15] (fun x i wx => ∃ j : Nat, j ≤ way.length ∧ i = .int .i64 j ∧ x = .int .i64 (lsum (lossF ls ts us os nb) way j) ∧ Below w5.heap.size w5 wx) (fun _ i _ => way.length - (intOf i).toNat)
      case atStart => exact ⟨0, by omega, rfl, by simp [lsum], Below.refl _ _⟩
      case round =>
        obtain ⟨j, hj, rfl, rfl, hbel⟩ := hrel
        have SJ := Lib.hid (S5.out.next hbel)
        have HWJ := Lib.hid (HZ5.out.below hbel)
        by_cases hjl : j < way.length
        · obtain ⟨b2, off2, z2, rfl, hbl2, hkz, e0⟩ := HWJ.out.at_ hjl
          have hjr : way[j]? = some (way[j]'hjl) := List.getElem?_eq_getElem hjl
          generalize (way[j]'hjl) = l at hjr
          rw [ofN_get hjr] at hkz
          injection hkz with hkz
          subst hkz
          have hlp := HMEM.out l (List.mem_of_getElem? hjr)
          obtain ⟨bL, offL, y, e9, hbL, hky, c0⟩ := SJ.out.r2.at_ hlp
          injection e9 with e9
          injection e9 with e91 e92
          subst e91 e92
          rw [floL_get hlp] at hky
          injection hky with hky
          subst hky
          rw [Nat.zero_add] at c0
          obtain ⟨bO, offO, o, rfl, hbO, hko, c1⟩ := (HRO.out.below SJ.out.st.bel).at_ hlp
          have HNL := Lib.hid (show lsum (lossF ls ts us os nb) way (j + 1) = lsum (lossF ls ts us os nb) way j + o * flo ls ts us nb l by rw [lsum_succ hjr, lossF, ohmAt_get hko, Int.mul_comm])
          have hD := lossTo_bd (ls := ls) (ts := ts) HBU.out hnb HOH.out hle10 (show j ≤ way.length by omega)
          have hP := lossF_bd (ls := ls) (ts := ts) HBU.out hnb HOH.out l
          rw [lossF, ohmAt_get hko, Int.mul_comm] at hP
          generalize lsum (lossF ls ts us os nb) way j = D at *
          generalize flo ls ts us nb l = Z at *
          obtain ⟨P, hPe⟩ : ∃ P, o * Z = P := ⟨_, rfl⟩
          rw [hPe] at hP
          have HPE := Lib.hid hPe
          have hw1 : IntKind.i64.wrap (o * Z) = P := by rw [hPe]; exact IntWalk.i64_in _ (by omega)
          have hw2 : IntKind.i64.wrap (D + P) = D + P := IntWalk.i64_in _ (by omega)
          have jj0 : (0 : Int) ≤ (j : Int) := by omega
          have jj1 : (j : Int) < (way.length : Int) := by omega
          have jj2 : (0 : Int) ≤ (l : Int) := by omega
          have jj3 : (l : Int) < (p : Int) := by omega
          clear hko hjr hPe hbO hbL hbl2
          go_wp2
          go_quiet (fail)
          go_wp2
          go_roundw
          case rel => exact ⟨j + 1, by omega, by go_num, by rw [HNL.out, HPE.out], below_drewN hbel _⟩
          case measure => simp [intOf]; omega
        · obtain rfl : j = way.length := by omega
          rw [← HDRP.out]
          obtain ⟨p0, p1, _, _⟩ := SJ.out.st.box.two
          obtain ⟨bP, offP, y, e9, hbP, hky, c0⟩ := SJ.out.r1.at_ hlt
          injection e9 with e9
          injection e9 with e91 e92
          subst e91 e92
          rw [HPG.out] at hky
          injection hky with hky
          subst hky
          rw [Nat.zero_add] at c0
          have hgl := SJ.out.st.bel.size
          have hbl := SJ.out.st.box.lt
          have HOWN := Lib.hid (show wr.ownsRow (w.heap.size + 1) 3 1 (.slice Av k cv) k ((drpP ls ts us os nb k).map (Value.int .i64)) by
            have h := SJ.out.st.own
            unfold OwnI at h
            rw [drpP_len] at h
            exact h)
          generalize drp ls ts us os nb k = D at *
          rcases HZI.out with ⟨hf, hz2'⟩ | ⟨hf, rfl⟩
          · have HN2 := Lib.hid (show drpP ls ts us os nb (k + 1) = drpP ls ts us os nb k ++ [D] by rw [HNX.out, HPV.out, if_pos hf])
            clear hf
            go_wp2_with (
              at_builtin
              refine wpList_append_lies _ rfl _ _ _ rfl (w.heap.size + 1) 3 i0 (.int .i64 0) 1 8 Try.underlying27 HI.out hz0 hz1 hz2 rfl (by decide) _ _ _ rfl (World.ownsRow.alloc HOWN.out _) ⟨wr.heap.size, 0, none⟩ 1 1 [.int .i64 D] rfl rfl ?c1 ?c2 ?c0 ?c3 ?c4 ?c5 _ rfl ?_
              case c1 => exact cell_one_new _ _ _
              case c2 => intro u hu; simp at hu; subst hu; rfl
              case c0 => omega
              case c3 => simp only [maxLen]; omega
              case c4 => omega
              case c5 => simp; omega
              intro g' cap' w6 hown' hgrow hat hlt3
              have S6 := Lib.hid (SJ.out.push (zs' := drpP ls ts us os nb (k + 1)) (.cells #[.int .i64 D] 3) (by rw [HN2.out]; simpa [OwnI, HLEN.out] using hown') hgrow hat))
            go_roundw
            case rel => exact ⟨k + 1, by omega, by go_num, S6.out⟩
            case measure => simp [intOf]; omega
          · have HN2 := Lib.hid (show drpP ls ts us os nb (k + 1) = drpP ls ts us os nb k ++ [-1] by rw [HNX.out, HPV.out, if_neg (by rw [hf]; decide)])
            clear hf
            go_wp2_with (
              at_builtin
              refine wpList_append_lies _ rfl _ _ _ rfl (w.heap.size + 1) 3 i0 (.int .i64 0) 1 8 Try.underlying27 HI.out hz0 hz1 hz2 rfl (by decide) _ _ _ rfl (World.ownsRow.alloc HOWN.out _) ⟨wr.heap.size, 0, none⟩ 1 1 [.int .i64 (-1)] rfl rfl ?c1 ?c2 ?c0 ?c3 ?c4 ?c5 _ rfl ?_
              case c1 => exact cell_one_new _ _ _
              case c2 => intro u hu; simp at hu; subst hu; rfl
              case c0 => omega
              case c3 => simp only [maxLen]; omega
              case c4 => omega
              case c5 => simp; omega
              intro g' cap' w6 hown' hgrow hat hlt3
              have S6 := Lib.hid (SJ.out.push (zs' := drpP ls ts us os nb (k + 1)) (.cells #[.int .i64 (-1)] 3) (by rw [HN2.out]; simpa [OwnI, HLEN.out] using hown') hgrow hat))
            go_roundw
            case rel => exact ⟨k + 1, by omega, by go_num, S6.out⟩
            case measure => simp [intOf]; omega
    · obtain rfl : k = nb := by omega
      go_wp2
      go_ret
      exact ⟨_, rfl, OwnI.more SK.out.st.own (by omega), SK.out.st.bel⟩
end Go.Proofs.Ytpmkeagdoehbhaa
