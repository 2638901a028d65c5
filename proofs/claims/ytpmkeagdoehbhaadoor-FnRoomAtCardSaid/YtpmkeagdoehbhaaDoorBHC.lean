/- Texts joined: Radial, of the program; Radial, FedBy, of the model. -/
import Derived.Test.YtpmkeagdoehbhaaDoorBQA
import Derived.Test.YtpmkeagdoehbhaaDoorBCF
import Derived.Test.YtpmkeagdoehbhaaDoorBFA
import Derived.Test.YtpmkeagdoehbhaaDoorBQB

/- Radial, of the program. -/
namespace Go.Proofs.YtpmkeagdoehbhaaDoor
open Go.ChangeShapes Go.WideShapes Go.ChangeAt Go.RowKit

/-- Which islands, by their numbers, have a feed among the first k buses. -/
noncomputable def fedTo (es : List E2) (us : List U2) (k : Nat) : List Bool := (List.range 8).map fun h => (List.range k).any fun b => decide (0 < fd us b) && leastF es b == h
theorem fedTo_len (es : List E2) (us : List U2) (k : Nat) : (fedTo es us k).length = 8 := by simp [fedTo]
theorem fedTo_get {es : List E2} {us : List U2} {k h : Nat} (hh : h < 8) : (fedTo es us k)[h]? = some ((List.range k).any fun b => decide (0 < fd us b) && leastF es b == h) := by
  rw [fedTo, List.getElem?_map, List.getElem?_range hh]; rfl
theorem fedTo_zero (es : List E2) (us : List U2) : fedTo es us 0 = List.replicate 8 false := by
  apply List.ext_getElem?
  intro b
  rcases Nat.lt_or_ge b 8 with hb | hb
  · rw [fedTo_get hb, List.getElem?_replicate, if_pos hb]; rfl
  · rw [List.getElem?_eq_none (by rw [fedTo_len]; exact hb), List.getElem?_eq_none (by simpa using hb)]
theorem fedTo_no {es : List E2} {us : List U2} {k : Nat} (h : ¬ 0 < fd us k) : fedTo es us (k + 1) = fedTo es us k := by
  unfold fedTo
  refine List.map_congr_left fun b _ => ?_
  rw [List.range_succ, List.any_append]
  simp [h]
theorem fedTo_yes {es : List E2} {us : List U2} {k : Nat} (h : 0 < fd us k) : fedTo es us (k + 1) = (fedTo es us k).set (leastF es k) true := by
  apply List.ext_getElem?
  intro b
  rcases Nat.lt_or_ge b 8 with hb | hb
  · rw [fedTo_get hb, List.getElem?_set, List.range_succ, List.any_append]
    by_cases e : leastF es k = b
    · subst e; simp [h, fedTo_len, hb]
    · rw [if_neg e, fedTo_get hb]; simp [h, e]
  · rw [List.getElem?_eq_none (by rw [fedTo_len]; exact hb), List.getElem?_eq_none (by rw [List.length_set, fedTo_len]; exact hb)]
/-- No two feeds among the first k buses are joined. -/
def OneTo (es : List E2) (us : List U2) (k : Nat) : Prop := ∀ b c, b < k → c < k → 0 < fd us b → 0 < fd us c → Conn es b c → b = c
theorem oneTo_no {es : List E2} {us : List U2} {k : Nat} (h : OneTo es us k) (hf : ¬ 0 < fd us k) : OneTo es us (k + 1) := by
  intro b c hb hc h1 h2 h3
  have e1 : b ≠ k := fun e => hf (e ▸ h1)
  have e2 : c ≠ k := fun e => hf (e ▸ h2)
  exact h b c (by omega) (by omega) h1 h2 h3
theorem oneTo_yes {es : List E2} {us : List U2} {k : Nat} (h : OneTo es us k) (hl : leastF es k < 8) (hf : (fedTo es us k)[leastF es k]? = some false) : OneTo es us (k + 1) := by
  rw [fedTo_get hl] at hf
  have hf := Option.some.inj hf
  rw [List.any_eq_false] at hf
  have key : ∀ b, b < k → 0 < fd us b → Conn es b k → False := fun b hb h1 h2 => by
    have := hf b (List.mem_range.2 hb)
    simp [h1, leastF_eq.2 h2] at this
  intro b c hb hc h1 h2 h3
  by_cases e1 : b = k
  · by_cases e2 : c = k
    · omega
    · subst e1; exact (key c (by omega) h2 h3.symm).elim
  · by_cases e2 : c = k
    · subst e2; exact (key b (by omega) h1 h3).elim
    · exact h b c (by omega) (by omega) h1 h2 h3
theorem oneTo_bad {es : List E2} {us : List U2} {k : Nat} (h0 : 0 < fd us k) (hl : leastF es k < 8) (hf : (fedTo es us k)[leastF es k]? = some true) : ¬ OneFeed es us := by
  rw [fedTo_get hl] at hf
  have hf := Option.some.inj hf
  rw [List.any_eq_true] at hf
  obtain ⟨b, hb, h2⟩ := hf
  have hb := List.mem_range.1 hb
  simp only [Bool.and_eq_true, decide_eq_true_eq, beq_iff_eq] at h2
  intro ho
  have := ho b k h2.1 h0 (leastF_eq.1 h2.2)
  omega
theorem oneTo_all {es : List E2} {us : List U2} {k : Nat} (h : OneTo es us k) (hk : us.length = k) : OneFeed es us := fun b c h1 h2 h3 =>
  h b c (by have := fd_lt h1; omega) (by have := fd_lt h2; omega) h1 h2 h3
theorem boolsB_at {bb : List Bool} {k : Nat} {t : Bool} (h : bb[k]? = some t) : (boolsB bb)[k]? = some (.bool t) := by simp [boolsB, h]
theorem boolsB_put (bb : List Bool) (k : Nat) (t : Bool) : (boolsB bb).setIfInBounds k (.bool t) = boolsB (bb.set k t) := by
  apply Array.ext'
  simp [boolsB, List.map_set]

set_option maxRecDepth 100000 in
set_option maxHeartbeats 1000000 in
theorem radial_any (bs : Int) (A : Option Addr) (n c : Nat) (ls : List L3) (B : Option Addr) (m d : Nat) (ts : List Bool) (U : Option Addr) (q r : Nat) (us : List U2) (w : World) (hn : n ≤ 1048576) (hr : RowL w A n ls) (hm : m ≤ 1048576) (hrt : RowT w B m ts) (hq : q ≤ 1048576) (hu : RowU w U q us) :
    Calls Tryd.prog 62 #[.agg #[.int .i64 bs, .slice A n c], .slice B m d, .slice U q r] w fun e w' => e = .returned (.bool (radF bs ls ts us)) ∧ Below w.heap.size w w' := by
  have HR := Lib.hid hr
  have HT := Lib.hid hrt
  have HU := Lib.hid hu
  have HL := Lib.hid hrt.len
  clear hr hrt hu
  have hbx := below_bx w (.cells #[.int .i64 bs, .slice A n c] 25)
  have BX := Lib.hid (IsBlk.new w 25 #[.int .i64 bs, .slice A n c])
  go_enter Tryd.func62, Tryd.ntmps62
  go_wp2_with fail
  refine (stateValid_any bs _ n c ls _ m d _ hn (HR.out.below hbx) (by omega)).mono ?_
  rintro e w1 ⟨rfl, hb1⟩
  have a1 : Below w.heap.size w w1 := hbx.trans (hb1.mono (by simp))
  have k1 := Lib.hid (BX.out.keep hb1)
  clear BX hbx
  obtain ⟨p0, p1, _, _⟩ := k1.out.two
  cases hs : stOk bs ls m
  · have HF := Lib.hid (show radF bs ls ts us = false from radF_bad (by rw [okU, HL.out, hs]; rfl))
    go_wp2
    go_ret
    exact ⟨retB HF.out.symm, a1⟩
  · have HS := Lib.hid hs
    clear hs
    go_wp2_with fail
    refine (busesValid_any bs _ n c ls _ q r us _ hn (HR.out.below a1) hq (HU.out.below a1)).mono ?_
    rintro e w2 ⟨rfl, hb2⟩
    have a2 : Below w.heap.size w w2 := a1.trans (hb2.mono a1.size)
    have k2 := Lib.hid (k1.out.keep hb2)
    clear p0 p1 k1
    obtain ⟨p0, p1, _, _⟩ := k2.out.two
    cases hbu : busesOk bs ls us
    · have HF := Lib.hid (show radF bs ls ts us = false from radF_bad (by rw [okU, hbu, Bool.and_false]))
      go_wp2
      go_ret
      exact ⟨retB HF.out.symm, a2⟩
    · have HB := Lib.hid hbu
      have HO := Lib.hid (show okU bs ls ts.length us = true by rw [okU, HL.out, HS.out, hbu]; rfl)
      clear hbu
      go_wp2_with fail
      refine (hasCycle_any bs _ n c ls _ m d ts _ hn (HR.out.below a2) hm (HT.out.below a2)).mono ?_
      rintro e w3 ⟨rfl, hb3⟩
      have a3 : Below w.heap.size w w3 := a2.trans (hb3.mono a2.size)
      have k3 := Lib.hid (k2.out.keep hb3)
      clear p0 p1 k2
      obtain ⟨p0, p1, _, _⟩ := k3.out.two
      cases hc : hasF bs ls ts
      · have HC := Lib.hid hc
        have HFE := Lib.hid (radF_eq HO.out hc)
        clear hc
        have hbs := okU_bs HO.out
        obtain ⟨nb, rfl⟩ := Int.eq_ofNat_of_zero_le (show 0 ≤ bs by omega)
        have hnb : nb ≤ 8 := by omega
        have hqn : q = nb := by have := busesOk_len HB.out; have := HU.out.len; omega
        subst hqn
        have HF := Lib.hid (show islF q ls ts = ofN (islL (edgesOn ls ts) q) by rw [islF, HL.out, if_pos HS.out]; rfl)
        clear hbs
        go_upto_region 4 with fail
        have KF0 := Lib.hid (show IsBlk (w3.alloc (.cells #[.bool false, .bool false, .bool false, .bool false, .bool false, .bool false, .bool false, .bool false] 104)) w3.heap.size 104 (boolsB (fedTo (edgesOn ls ts) us 0)) from by rw [fedTo_zero]; exact IsBlk.new w3 _ _)
        have k4 := Lib.hid (k3.out.alloc (.cells #[.bool false, .bool false, .bool false, .bool false, .bool false, .bool false, .bool false, .bool false] 104))
        have a4 := a3.alloc a3.size (.cells #[.bool false, .bool false, .bool false, .bool false, .bool false, .bool false, .bool false, .bool false] 104)
        have hz4 : w3.heap.size < (w3.alloc (.cells #[.bool false, .bool false, .bool false, .bool false, .bool false, .bool false, .bool false, .bool false] 104)).heap.size := by simp
        have hgw : w.heap.size ≤ w3.heap.size := a3.size
        clear p0 p1 k3 hb1 hb2 hb3 a1 a2
        generalize w3.alloc (.cells #[.bool false, .bool false, .bool false, .bool false, .bool false, .bool false, .bool false, .bool false] 104) = w4 at *
        clear a3
        generalize w3.heap.size = g at *
        obtain ⟨p0, p1, _, _⟩ := k4.out.two
        go_wp2_with fail
        refine (isl_any q _ n c ls _ m d ts _ hn (HR.out.below a4) hm (HT.out.below a4)).mono ?_
        rintro e w5 ⟨v, rfl, hO, hb5⟩
        have a5 : Below w.heap.size w w5 := a4.trans (hb5.mono a4.size)
        have KF := Lib.hid (KF0.out.keep hb5)
        rw [HF.out] at hO
        have hlt5 := OwnI.lt hO
        obtain ⟨A1, c1, rfl, _⟩ := hO.sl
        have hZ5 := hO.rowZ
        rw [ofN_len, islL_len] at hZ5 hlt5 ⊢
        have HZ := Lib.hid hZ5
        have HNG := Lib.hid (show ∀ b off, A1 = some ⟨b, off, none⟩ → b ≠ g from fun b off e e2 => by
          subst e; have := (hlt5 b rfl).1; omega)
        clear hO hZ5 hlt5 p0 p1 k4 KF0 hb5 HF HS HC HR HT
        generalize hes : edgesOn ls ts = es at *
        go_wp2
        go_loopw [29] (fun i wr => ∃ k : Nat, k ≤ q ∧ i = .int .i64 k ∧ w5.grownBy wr (some g) ∧ IsBlk wr g 104 (boolsB (fedTo es us k)) ∧ OneTo es us k) (fun i _ => q - (intOf i).toNat)
        case atStart => exact ⟨0, by omega, rfl, World.grownBy.refl _ _, KF.out, fun b c hb => absurd hb (by omega)⟩
        case round =>
          obtain ⟨k, hk, rfl, hgr, hblk, hone⟩ := hrel
          have KB := Lib.hid hblk
          have HON := Lib.hid hone
          have hbel : Below w.heap.size w wr := a5.grown hgr a5.size (fun k hk => by cases hk; exact hgw)
          clear hblk hone
          by_cases hlt : k < q
          · obtain ⟨b, off, z, rfl, hb, hkz, e0⟩ := HZ.out.at_ hlt
            have hbg := HNG.out b off rfl
            rw [← hgr.cell_far ⟨b, off + k, none⟩ hb (by simpa using hbg)] at e0
            obtain ⟨b', off', u, rfl, hb', hku, g0, g1⟩ := HU.out.at_ hlt
            rw [← hbel.cell (p := ⟨b', off' + k * 2, none⟩) hb'] at g0
            rw [ofN_get (islL_get hlt)] at hkz
            injection hkz with hkz
            subst hkz
            have hh := leastF_lt (es := es) hlt
            have hfd := fd_at hku
            have hu4 := busesOk_at HB.out hku
            have i0 : (0 : Int) ≤ (k : Int) := by omega
            have i1 : (k : Int) < (q : Int) := by omega
            by_cases hf : u.1 = 0
            · have hno : ¬ 0 < fd us k := by omega
              have HN1 := Lib.hid (fedTo_no (es := es) hno)
              have HN2 := Lib.hid (oneTo_no HON.out hno)
              have hx : (u.1 == 0) = true := by simpa using hf
              clear hno hfd hu4 hku g1
              go_wp2
              go_roundw
              case rel => exact ⟨k + 1, by omega, by go_num, hgr, by rw [HN1.out]; exact KB.out, HN2.out⟩
              case measure => simp [intOf]; omega
            · have hyes : 0 < fd us k := by omega
              have HY := Lib.hid hyes
              have HN1 := Lib.hid (fedTo_yes (es := es) hyes)
              have hx : (u.1 == 0) = false := by simpa using hf
              have hget := fedTo_get (es := es) (us := us) (k := k) (h := leastF es k) (by omega)
              generalize (List.range k).any (fun b => decide (0 < fd us b) && leastF es b == leastF es k) = t at hget
              have HG := Lib.hid hget
              have c0 := (KB.out.cell (leastF es k)).trans (boolsB_at hget)
              have f0 := KB.out.thaw (leastF es k)
              have HSN := Lib.hid (show t = false → OneTo es us (k + 1) from fun e => oneTo_yes HON.out (by omega) (by rw [HG.out, e]))
              have HSB := Lib.hid (show t = true → ¬ OneFeed es us from fun e => oneTo_bad HY.out (by omega) (by rw [HG.out, e]))
              clear hyes hfd hu4 hku g1 hget
              generalize leastF es k = h at *
              have i2 : (0 : Int) ≤ (h : Int) := by omega
              have i3 : (h : Int) < 8 := by omega
              cases t
              · go_wp2
                go_roundw
                case rel =>
                  exact ⟨k + 1, by omega, by go_num, grown_then hgr (grown_put _ _ _ _), by rw [HN1.out, ← boolsB_put]; exact KB.out.put _ _, HSN.out (by trivial)⟩
                case measure => simp [intOf]; omega
              · go_wp2
                go_ret
                exact ⟨retB (by rw [eq_comm, Bool.eq_false_iff]; exact fun e => HSB.out (by trivial) (HFE.out.1 e)), hbel⟩
          · obtain rfl : k = q := by omega
            go_wp2
            go_ret
            exact ⟨retB (HFE.out.2 (oneTo_all HON.out HU.out.len)).symm, hbel⟩
      · have HF := Lib.hid (show radF bs ls ts us = false from radF_cyc hc)
        go_wp2
        go_ret
        exact ⟨retB HF.out.symm, a3⟩
end Go.Proofs.YtpmkeagdoehbhaaDoor

/- Radial, FedBy, of the model. -/
namespace Go.Proofs.YtpmkeagdoehbhaaDoor
open Go.ChangeShapes Go.WideShapes Go.ChangeAt Go.RowKit

theorem samF_in {nb : Nat} {ls : List L3} {ts : List Bool} {a b : Nat} (hs : stOk nb ls ts.length = true) (ha : a < nb) (hb : b < nb) : samF nb ls ts a b = connB (edgesOn ls ts) a b := by
  have e1 : inB (a : Int) 0 ((nb : Int) - 1) = true := by simp only [inB, Bool.and_eq_true, decide_eq_true_eq]; omega
  have e2 : inB (b : Int) 0 ((nb : Int) - 1) = true := by simp only [inB, Bool.and_eq_true, decide_eq_true_eq]; omega
  rw [samF, hs, e1, e2]; rfl
theorem oneTo_join {es : List E2} {us : List U2} {k : Nat} (h : OneTo es us k) (h2 : ∀ b, b < k → 0 < fd us k → 0 < fd us b → ¬ Conn es b k) : OneTo es us (k + 1) := by
  intro b c hb hc h3 h4 h5
  by_cases e1 : b = k
  · by_cases e2 : c = k
    · omega
    · subst e1; exact absurd h5.symm (h2 c (by omega) h3 h4)
  · by_cases e2 : c = k
    · subst e2; exact absurd h5 (h2 b (by omega) h4 h3)
    · exact h b c (by omega) (by omega) h3 h4 h5

set_option maxRecDepth 100000 in
set_option maxHeartbeats 1000000 in
theorem specRadial_any (bs : Int) (A : Option Addr) (n c : Nat) (ls : List L3) (B : Option Addr) (m d : Nat) (ts : List Bool) (U : Option Addr) (q r : Nat) (us : List U2) (w : World) (hn : n ≤ 1048576) (hr : RowL w A n ls) (hm : m ≤ 1048576) (hrt : RowT w B m ts) (hq : q ≤ 1048576) (hu : RowU w U q us) :
    Calls Tryd.prog 52 #[.agg #[.int .i64 bs, .slice A n c], .slice B m d, .slice U q r] w fun e w' => e = .returned (.bool (radF bs ls ts us)) ∧ Below w.heap.size w w' := by
  have HR := Lib.hid hr
  have HT := Lib.hid hrt
  have HU := Lib.hid hu
  have HL := Lib.hid hrt.len
  clear hr hrt hu
  have hbx := below_bx w (.cells #[.int .i64 bs, .slice A n c] 25)
  have BX := Lib.hid (IsBlk.new w 25 #[.int .i64 bs, .slice A n c])
  go_enter Tryd.func52, Tryd.ntmps52
  go_wp2_with fail
  refine (l5Ok_any bs _ n c ls _ m d _ q r us _ hn (HR.out.below hbx) hm hq (HU.out.below hbx)).mono ?_
  rintro e w1 ⟨rfl, hb1⟩
  have a1 : Below w.heap.size w w1 := hbx.trans (hb1.mono (by simp))
  have k1 := Lib.hid (BX.out.keep hb1)
  clear BX hbx
  obtain ⟨p0, p1, _, _⟩ := k1.out.two
  cases hok : okU bs ls m us
  · have HF := Lib.hid (show radF bs ls ts us = false from radF_bad (by rw [HL.out, hok]))
    go_wp2
    go_ret
    exact ⟨retB HF.out.symm, a1⟩
  · have HO := Lib.hid (show okU bs ls ts.length us = true by rw [HL.out, hok])
    clear hok
    go_wp2_with fail
    refine (specHas_any bs _ n c ls _ m d ts _ hn (HR.out.below a1) hm (HT.out.below a1)).mono ?_
    rintro e w2 ⟨rfl, hb2⟩
    have a2 : Below w.heap.size w w2 := a1.trans (hb2.mono a1.size)
    have k2 := Lib.hid (k1.out.keep hb2)
    clear p0 p1 k1
    obtain ⟨p0, p1, _, _⟩ := k2.out.two
    cases hc : hasF bs ls ts
    · have HFE := Lib.hid (radF_eq HO.out hc)
      have hbs := okU_bs HO.out
      have HS := Lib.hid (okU_st HO.out)
      have HB := Lib.hid (okU_bu HO.out)
      obtain ⟨nb, rfl⟩ := Int.eq_ofNat_of_zero_le (show 0 ≤ bs by omega)
      have hnb : nb ≤ 8 := by omega
      have hqn : q = nb := by have := busesOk_len HB.out; have := HU.out.len; omega
      subst hqn
      clear hbs hc
      go_wp2
      clear p0 p1
      go_loopw [7] (fun i wr => ∃ k : Nat, k ≤ q ∧ i = .int .i64 k ∧ Below w2.heap.size w2 wr ∧ OneTo (edgesOn ls ts) us k) (fun i _ => q - (intOf i).toNat)
      case atStart => exact ⟨0, by omega, rfl, Below.refl _ _, fun b c hb => absurd hb (by omega)⟩
      case round =>
        obtain ⟨k, hk, rfl, hbel, hone⟩ := hrel
        have HON := Lib.hid hone
        have k3 := Lib.hid (k2.out.keep hbel)
        obtain ⟨p0, p1, _, _⟩ := k3.out.two
        clear hone
        by_cases hlt : k < q
        · have ii0 : (k : Int) < (q : Int) := by omega
          go_wp2
          clear p0 p1
          go_loopw [8] (fun i wx => ∃ j : Nat, j ≤ k ∧ i = .int .i64 j ∧ Below w2.heap.size w2 wx ∧ ∀ b, b < j → 0 < fd us k → 0 < fd us b → ¬ Conn (edgesOn ls ts) b k) (fun i _ => k - (intOf i).toNat)
          case atStart => exact ⟨0, by omega, rfl, hbel, fun b hb => absurd hb (by omega)⟩
          case round =>
            obtain ⟨j, hj, rfl, hbel2, hno⟩ := hrel
            have HNO := Lib.hid hno
            have k4 := Lib.hid (k2.out.keep hbel2)
            obtain ⟨p0, p1, _, _⟩ := k4.out.two
            have a4 : Below w.heap.size w wr := a2.trans (hbel2.mono a2.size)
            clear hno
            by_cases hjk : j < k
            · obtain ⟨b, off, u, rfl, hb, hku, g0, g1⟩ := HU.out.at_ hlt
              rw [← a4.cell (p := ⟨b, off + k * 2, none⟩) hb] at g0
              obtain ⟨b', off', v, e9, hb', hjv, g0', g1'⟩ := HU.out.at_ (show j < q by omega)
              injection e9 with e9
              injection e9 with e91 e92
              subst e91 e92
              rw [← a4.cell (p := ⟨b, off + j * 2, none⟩) hb] at g0'
              have hfk := fd_at hku
              have hfj := fd_at hjv
              have ii1 : (0 : Int) ≤ (j : Int) := by omega
              have ii2 : (j : Int) < (q : Int) := by omega
              have ii3 : (0 : Int) ≤ (k : Int) := by omega
              have ii4 : (j : Int) < (k : Int) := by omega
              have next : (0 < fd us k → 0 < fd us j → ¬ Conn (edgesOn ls ts) j k) → ∀ b, b < j + 1 → 0 < fd us k → 0 < fd us b → ¬ Conn (edgesOn ls ts) b k := fun h b hb => by
                by_cases e : b = j
                · subst e; exact h
                · exact HNO.out b (by omega)
              have NX := Lib.hid next
              clear next hku hjv g1 g1'
              by_cases hf1 : 0 < u.1
              · by_cases hf2 : 0 < v.1
                · have hsa := samF_in (nb := q) (a := j) (b := k) HS.out (by omega) (by omega)
                  have HF1 := Lib.hid (show 0 < fd us k by rw [hfk]; exact hf1)
                  have HF2 := Lib.hid (show 0 < fd us j by rw [hfj]; exact hf2)
                  have HSA := Lib.hid hsa
                  clear hsa hfk hfj
                  go_wp2_with fail
                  refine (specSam_any q _ n c ls _ m d ts j k _ hn (HR.out.below a4) hm (HT.out.below a4)).mono ?_
                  rintro e w5 ⟨rfl, hb5⟩
                  have hbel5 := hbel2.trans (hb5.mono hbel2.size)
                  have a5 := a4.trans (hb5.mono a4.size)
                  rw [HSA.out]
                  cases hcb : connB (edgesOn ls ts) j k
                  · have NX2 := Lib.hid (NX.out (fun _ _ => connB_no.1 hcb))
                    clear hcb
                    go_wp2
                    go_roundw
                    case rel => exact ⟨j + 1, by omega, by go_num, hbel5, NX2.out⟩
                    case measure => simp [intOf]; omega
                  · have HBAD := Lib.hid (show radF q ls ts us = false by
                      rw [Bool.eq_false_iff]; intro h
                      have := HFE.out.1 h j k HF2.out HF1.out (connB_iff.1 hcb)
                      omega)
                    clear hcb
                    go_wp2
                    go_ret
                    exact ⟨retB HBAD.out.symm, a5⟩
                · have NX2 := Lib.hid (NX.out (fun _ h => absurd (by rw [hfj] at h; exact h) hf2))
                  clear hfk hfj
                  go_wp2
                  go_roundw
                  case rel => exact ⟨j + 1, by omega, by go_num, hbel2, NX2.out⟩
                  case measure => simp [intOf]; omega
              · have NX2 := Lib.hid (NX.out (fun h _ => absurd (by rw [hfk] at h; exact h) hf1))
                clear hfk hfj
                go_wp2
                go_roundw
                case rel => exact ⟨j + 1, by omega, by go_num, hbel2, NX2.out⟩
                case measure => simp [intOf]; omega
            · obtain rfl : k = j := by omega
              have HN2 := Lib.hid (oneTo_join HON.out HNO.out)
              go_wp2
              go_roundw
              case rel => exact ⟨k + 1, by omega, by go_num, hbel2, HN2.out⟩
              case measure => simp [intOf]; omega
        · obtain rfl : k = q := by omega
          go_wp2
          go_ret
          exact ⟨retB (HFE.out.2 (oneTo_all HON.out HU.out.len)).symm, a2.trans (hbel.mono a2.size)⟩
    · have HF := Lib.hid (show radF bs ls ts us = false from radF_cyc hc)
      go_wp2
      go_ret
      exact ⟨retB HF.out.symm, a2⟩

theorem fbyF_none {bs : Int} {ls : List L3} {ts : List Bool} {us : List U2} {bus : Int} (h : (rchF bs ls ts bus).length = 0) : fbyF bs ls ts us bus = -1 := by
  rw [fbyF, if_neg]
  rintro ⟨h1, h2⟩
  have hs := okU_st (radF_iff.1 h1).1
  have h3 := h2
  simp only [inB, Bool.and_eq_true, decide_eq_true_eq] at h3
  have := rchF_self (bs := bs) (ls := ls) (ts := ts) (bus := bus) hs h3.1 (by omega)
  have := List.length_pos_of_mem this
  omega
theorem fbyF_some {bs : Int} {ls : List L3} {ts : List Bool} {us : List U2} {bus z : Int} (hr : radF bs ls ts us = true) (hz : z ∈ rchF bs ls ts bus) (hf : 0 < fd us z.toNat) : fbyF bs ls ts us bus = z := by
  obtain ⟨hok, _, ho⟩ := radF_iff.1 hr
  have hs := okU_st hok
  obtain ⟨_, h0, h1⟩ := rchF_some (List.length_pos_of_mem hz)
  obtain ⟨z0, z1, hc⟩ := (mem_rchF hs h0 h1).1 hz
  have hb : inB bus 0 (bs - 1) = true := by simp [inB]; omega
  have hul := busesOk_len (okU_bu hok)
  rw [fbyF, if_pos ⟨hr, hb⟩, feedOf_some ho hf hc.symm (by omega)]
  omega
theorem fbyF_no {bs : Int} {ls : List L3} {ts : List Bool} {us : List U2} {bus : Int} (hr : radF bs ls ts us = true) (h : ∀ z ∈ rchF bs ls ts bus, ¬ 0 < fd us z.toNat) : fbyF bs ls ts us bus = -1 := by
  by_cases hb : inB bus 0 (bs - 1) = true
  · obtain ⟨hok, _, ho⟩ := radF_iff.1 hr
    have hs := okU_st hok
    have h3 := hb
    simp only [inB, Bool.and_eq_true, decide_eq_true_eq] at h3
    have hul := busesOk_len (okU_bu hok)
    rw [fbyF, if_pos ⟨hr, hb⟩]
    refine feedOf_none ?_ _
    rw [Bool.eq_false_iff]; intro hfd
    obtain ⟨f, hf, hc⟩ := fedB_iff.1 hfd
    refine h (f : Int) ((mem_rchF hs h3.1 (by omega)).2 ⟨by omega, by have := fd_lt hf; omega, by simpa using hc.symm⟩) (by simpa using hf)
  · rw [fbyF, if_neg (fun h => hb h.2)]

set_option maxRecDepth 100000 in
set_option maxHeartbeats 1000000 in
theorem specFedBy_any (bs : Int) (A : Option Addr) (n c : Nat) (ls : List L3) (B : Option Addr) (m d : Nat) (ts : List Bool) (U : Option Addr) (q r : Nat) (us : List U2) (bus : Int) (w : World) (hn : n ≤ 1048576) (hr : RowL w A n ls) (hm : m ≤ 1048576) (hrt : RowT w B m ts) (hq : q ≤ 1048576) (hu : RowU w U q us) :
    Calls Tryd.prog 46 #[.agg #[.int .i64 bs, .slice A n c], .slice B m d, .slice U q r, .int .i64 bus] w fun e w' => e = .returned (.int .i64 (fbyF bs ls ts us bus)) ∧ Below w.heap.size w w' := by
  have HR := Lib.hid hr
  have HT := Lib.hid hrt
  have HU := Lib.hid hu
  clear hr hrt hu
  have hbx := below_bx w (.cells #[.int .i64 bs, .slice A n c] 25)
  have BX := Lib.hid (IsBlk.new w 25 #[.int .i64 bs, .slice A n c])
  go_enter Tryd.func46, Tryd.ntmps46
  go_wp2_with fail
  refine (specRadial_any bs _ n c ls _ m d ts _ q r us _ hn (HR.out.below hbx) hm (HT.out.below hbx) hq (HU.out.below hbx)).mono ?_
  rintro e w1 ⟨rfl, hb1⟩
  have a1 : Below w.heap.size w w1 := hbx.trans (hb1.mono (by simp))
  have k1 := Lib.hid (BX.out.keep hb1)
  clear BX hbx
  obtain ⟨p0, p1, _, _⟩ := k1.out.two
  cases hrad : radF bs ls ts us
  · have HF := Lib.hid (show fbyF bs ls ts us bus = -1 by rw [fbyF, if_neg (by rw [hrad]; simp)])
    go_wp2
    go_ret
    exact ⟨retI HF.out.symm, a1⟩
  · have HRAD := Lib.hid hrad
    have hok := (radF_iff.1 hrad).1
    have hul := busesOk_len (okU_bu hok)
    have HST := Lib.hid (okU_st hok)
    clear hrad hok
    go_wp2_with fail
    refine (specRch_any bs _ n c ls _ m d ts bus _ hn (HR.out.below a1) hm (HT.out.below a1)).mono ?_
    rintro e w2 ⟨v, rfl, hO, hb2⟩
    have a2 : Below w.heap.size w w2 := a1.trans (hb2.mono a1.size)
    obtain ⟨A1, c1, rfl, hZ⟩ := hO.sl
    have HZ := Lib.hid hZ
    have HU2 := Lib.hid (HU.out.below a2)
    have HMEM := Lib.hid (fun z (h : z ∈ rchF bs ls ts bus) => (show 0 ≤ z ∧ z < bs from by
      obtain ⟨_, h0, h1⟩ := rchF_some (List.length_pos_of_mem h)
      have := (mem_rchF HST.out h0 h1).1 h
      exact ⟨this.1, this.2.1⟩))
    have hle8 := rchF_len bs ls ts bus
    have HYES := Lib.hid (fun z (h : z ∈ rchF bs ls ts bus) (hf : 0 < fd us z.toNat) => fbyF_some HRAD.out h hf)
    have HNO := Lib.hid (fun (h : ∀ z ∈ rchF bs ls ts bus, ¬ 0 < fd us z.toNat) => fbyF_no HRAD.out h)
    have HUL := Lib.hid (show us.length = q from HU.out.len)
    clear hO hZ p0 p1 k1
    generalize rchF bs ls ts bus = zs at *
    go_wp2
    go_loopw [10] (fun i wr => ∃ k : Nat, k ≤ zs.length ∧ i = .int .i64 k ∧ wr = w2 ∧ ∀ j z, j < k → zs[j]? = some z → ¬ 0 < fd us z.toNat) (fun i _ => zs.length - (intOf i).toNat)
    case atStart => exact ⟨0, by omega, rfl, rfl, fun j z h => absurd h (by omega)⟩
    case round =>
      obtain ⟨k, hk, rfl, rfl, hall⟩ := hrel
      have HALL := Lib.hid hall
      clear hall
      by_cases hlt : k < zs.length
      · obtain ⟨b, off, z, rfl, hb, hkz, e0⟩ := HZ.out.at_ hlt
        have hzm := List.mem_of_getElem? hkz
        obtain ⟨z0, z1⟩ := HMEM.out z hzm
        have hyes := HYES.out z hzm
        obtain ⟨y, rfl⟩ := Int.eq_ofNat_of_zero_le z0
        have hyq : y < q := by have := HUL.out; omega
        obtain ⟨b', off', u, rfl, hb', hku, g0, g1⟩ := HU2.out.at_ hyq
        have hfd := fd_at hku
        have ii0 : (0 : Int) ≤ (k : Int) := by omega
        have ii1 : (k : Int) < (zs.length : Int) := by omega
        have ii2 : (y : Int) < (q : Int) := by omega
        have HKZ := Lib.hid hkz
        clear hku hkz hzm g1
        rw [Int.toNat_natCast, hfd] at hyes
        by_cases hf : 0 < u.1
        · have HY := Lib.hid (hyes hf)
          clear hyes hfd
          go_wp2
          go_ret
          exact ⟨retI HY.out.symm, a2⟩
        · have HN := Lib.hid (show ¬ 0 < fd us y by rw [hfd]; exact hf)
          clear hyes hfd
          go_wp2
          go_roundw
          case rel =>
            refine ⟨k + 1, by omega, by go_num, by trivial, fun j z hj hz => ?_⟩
            rcases Nat.lt_or_ge j k with h1 | h1
            · exact HALL.out j z h1 hz
            · obtain rfl : j = k := by omega
              rw [HKZ.out] at hz; injection hz with hz; subst hz
              rw [Int.toNat_natCast]; exact HN.out
          case measure => simp [intOf]; omega
      · have HF := Lib.hid (HNO.out (fun z hz => by
          obtain ⟨j, hj, e⟩ := List.getElem_of_mem hz
          have := HALL.out j z (by omega) (by rw [List.getElem?_eq_getElem hj, e])
          omega))
        go_wp2
        go_ret
        exact ⟨retI HF.out.symm, a2⟩
end Go.Proofs.YtpmkeagdoehbhaaDoor
