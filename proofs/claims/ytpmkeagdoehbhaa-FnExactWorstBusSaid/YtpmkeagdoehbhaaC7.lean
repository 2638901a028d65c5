/- LineFlow, FeedFlow, Overloads, NetGood, of the model. -/
import Derived.Test.YtpmkeagdoehbhaaBZA
import Derived.Test.YtpmkeagdoehbhaaBXB
import Derived.Test.YtpmkeagdoehbhaaBHA
import Derived.Test.YtpmkeagdoehbhaaBCF
import Derived.Test.YtpmkeagdoehbhaaBXC
namespace Go.Proofs.Ytpmkeagdoehbhaa
open Go.ChangeShapes Go.WideShapes Go.ChangeAt Go.RowKit

/-- What lines carry, reckoned from the first k buses; and from the first j lines of the way of bus k. -/
noncomputable def floTo (ls : List L3) (ts : List Bool) (us : List U2) (m k : Nat) : List Int := (List.range m).map fun l => gsum (wB ls ts us l) (ld us) k
noncomputable def floMid (ls : List L3) (ts : List Bool) (us : List U2) (m k j : Nat) : List Int := (List.range m).map fun l => gsum (wB ls ts us l) (ld us) k + if l ∈ (wayF ls ts us k).reverse.take j then ld us k else 0
section
variable {bs : Int} {ls : List L3} {ts : List Bool} {us : List U2} {m k j l : Nat}
theorem floTo_zero : floTo ls ts us m 0 = List.replicate m 0 := by
  apply List.ext_getElem?
  intro i
  rcases Nat.lt_or_ge i m with hi | hi
  · rw [floTo, List.getElem?_map, List.getElem?_range hi, List.getElem?_replicate, if_pos hi]; rfl
  · rw [List.getElem?_eq_none (by simpa [floTo] using hi), List.getElem?_eq_none (by simpa using hi)]
theorem floMid_zero : floMid ls ts us m k 0 = floTo ls ts us m k := by simp [floMid, floTo]
theorem floMid_all : floMid ls ts us m k (wayF ls ts us k).length = floTo ls ts us m (k + 1) := by
  unfold floMid floTo
  refine List.map_congr_left fun i _ => ?_
  rw [gsum, ← List.length_reverse, List.take_length]
  congr 1
  simp [wB]
theorem floMid_len : (floMid ls ts us m k j).length = m := by simp [floMid]
theorem floMid_get (hl : l < m) : (floMid ls ts us m k j)[l]? = some (gsum (wB ls ts us l) (ld us) k + if l ∈ (wayF ls ts us k).reverse.take j then ld us k else 0) := by
  rw [floMid, List.getElem?_map, List.getElem?_range hl]; rfl
theorem floMid_next (ha : Acyc ls ts) (ho : OneFeed (edgesOn ls ts) us) (hl : l < m) (hj : (wayF ls ts us k).reverse[j]? = some l) :
    (floMid ls ts us m k j)[l]? = some (gsum (wB ls ts us l) (ld us) k) ∧ floMid ls ts us m k (j + 1) = (floMid ls ts us m k j).set l (gsum (wB ls ts us l) (ld us) k + ld us k) := by
  have hw := wayF_fed ha ho (List.mem_reverse.1 (List.mem_of_getElem? hj))
  have hnd := hw.nodup ha ho
  have hnd2 : (wayF ls ts us k).reverse.Nodup := List.pairwise_reverse.2 (hnd.imp fun h => Ne.symm h)
  have hfresh : l ∉ (wayF ls ts us k).reverse.take j := fun hm => by
    obtain ⟨i, hi, e⟩ := List.getElem_of_mem hm
    obtain ⟨hj', e2⟩ := List.getElem?_eq_some_iff.1 hj
    have hi2 : i < j := by rw [List.length_take] at hi; omega
    rw [List.getElem_take] at e
    have := (List.getElem_inj (h₀ := by omega) (h₁ := hj') hnd2).1 (e.trans e2.symm)
    omega
  have hmem : ∀ i, i ∈ (wayF ls ts us k).reverse.take (j + 1) ↔ (i ∈ (wayF ls ts us k).reverse.take j ∨ i = l) := fun i => by
    rw [List.take_add_one, hj]; simp
  have h1 := floMid_get (ls := ls) (ts := ts) (us := us) (k := k) (j := j) hl
  rw [if_neg hfresh, Int.add_zero] at h1
  refine ⟨h1, ?_⟩
  apply List.ext_getElem?
  intro i
  rcases Nat.lt_or_ge i m with hi | hi
  · rw [floMid_get hi, List.getElem?_set]
    by_cases e : l = i
    · subst e
      rw [if_pos rfl, if_pos ((hmem l).2 (.inr rfl)), if_pos (by rw [floMid_len]; exact hl)]
    · rw [if_neg e, floMid_get hi]
      congr 2
      have : (i ∈ (wayF ls ts us k).reverse.take (j + 1)) = (i ∈ (wayF ls ts us k).reverse.take j) := by
        rw [hmem i]
        exact propext ⟨fun h => h.resolve_right fun e2 => e e2.symm, .inl⟩
      simp only [this]
  · rw [List.getElem?_eq_none (by rw [floMid_len]; exact hi), List.getElem?_eq_none (by rw [List.length_set, floMid_len]; exact hi)]
theorem floTo_bd {ls' : List L3} (hb : busesOk bs ls' us = true) (hk : k ≤ 8) (l : Nat) : 0 ≤ gsum (wB ls ts us l) (ld us) k ∧ gsum (wB ls ts us l) (ld us) k ≤ 7992 := by
  have := gsum_bd (p := wB ls ts us l) (f := ld us) (M := 999) (k := k) (fun c _ => ld_bd hb c)
  omega
end

set_option maxRecDepth 100000 in
set_option maxHeartbeats 2000000 in
theorem l7Flows_any (nb : Nat) (A : Option Addr) (n c : Nat) (ls : List L3) (B : Option Addr) (m d : Nat) (ts : List Bool) (U : Option Addr) (q r : Nat) (us : List U2) (w : World) (hr : RowL w A n ls) (hrt : RowT w B m ts) (hu : RowU w U q us)
    (h : radF nb ls ts us = true) :
    Calls Try.prog 45 #[.agg #[.int .i64 (nb : Int), .slice A n c], .slice B m d, .slice U q r] w fun e w' => ∃ g, e = .returned (.slice (some ⟨g, 0, none⟩) m m) ∧ OwnI 3 w' w.heap.size (.slice (some ⟨g, 0, none⟩) m m) (floL ls ts us nb m) ∧ Below w.heap.size w w' := by
  have HR := Lib.hid hr
  have HT := Lib.hid hrt
  have HU := Lib.hid hu
  obtain ⟨hok, ha, ho⟩ := radF_iff.1 h
  have HA := Lib.hid ha
  have HO := Lib.hid ho
  have HH := Lib.hid h
  have hbs := okU_bs hok
  have hnb : nb ≤ 8 := by omega
  have HS := Lib.hid (okU_st hok)
  have HBU := Lib.hid (okU_bu hok)
  have hqn : q = nb := by have := busesOk_len (okU_bu hok); have := hu.len; omega
  subst hqn
  have hm10 : m ≤ 10 := by have := (stOk_len (okU_st hok)).2; have := hrt.len; omega
  have HTL := Lib.hid hrt.len
  have hmk := makeIntsN m (by omega)
  have hbx := below_bx w (.cells #[.int .i64 (q : Int), .slice A n c] 33)
  have BX := IsBlk.new w 33 #[.int .i64 (q : Int), .slice A n c]
  have hblk := IsBlk.new (w.alloc (.cells #[.int .i64 (q : Int), .slice A n c] 33)) 3 (madeCells #[Value.int .i64 0] m)
  simp only [World.size_alloc] at hblk
  have S0 := Lib.hid (show NumSt w ((w.alloc (.cells #[.int .i64 (q : Int), .slice A n c] 33)).alloc (.cells (madeCells #[Value.int .i64 0] m) 3)) q n c A (.slice (some ⟨w.heap.size + 1, 0, none⟩) m m) (floTo ls ts us m 0) from
    ⟨by
      rw [floTo_zero]
      exact OwnI.mk_ List.length_replicate (Nat.le_refl _) hblk (Nat.le_refl _) (by simp only [maxLen]; omega) (by rw [zB_made1]; simp [zB]) (by rw [zB_made1]; simp [zB]), hbx.alloc (by simp) _, BX.alloc _⟩)
  clear hr hrt hu h hok ha ho hbs hbx BX hblk
  go_enter Try.func45, Try.ntmps45
  go_upto_region 2 with fail
  generalize (w.alloc (.cells #[.int .i64 (q : Int), .slice A n c] 33)).alloc (.cells (madeCells #[Value.int .i64 0] m) 3) = W0 at *
  obtain ⟨p0, p1, _, _⟩ := S0.out.box.two
  clear hmk
  go_wp2_with fail
  refine (l6Parents_any q _ n c ls _ m d ts _ q r us _ (HR.out.below S0.out.bel) (HT.out.below S0.out.bel) (HU.out.below S0.out.bel) HH.out).mono ?_
  rintro e w2 ⟨g, cap, rfl, hO2, hb2⟩
  have S2 := Lib.hid (S0.out.next hb2)
  have HZ2 := Lib.hid (OwnI.rowZ hO2)
  have hgX : w.heap.size + 1 < g := by have h1 := hO2.at1.1; have h2 := S0.out.own.at1.2.1; omega
  have hg2 : g < w2.heap.size := hO2.at1.2.1
  clear S0 p0 p1 hO2 hb2
  go_wp2
  go_loopw [9] (fun i wr => ∃ k : Nat, k ≤ q ∧ i = .int .i64 k ∧ NumSt w wr q n c A (.slice (some ⟨w.heap.size + 1, 0, none⟩) m m) (floTo ls ts us m k) ∧ RowZ wr (some ⟨g, 0, none⟩) q (parF ls ts us q) ∧ g < wr.heap.size) (fun i _ => q - (intOf i).toNat)
  case atStart => exact ⟨0, by omega, rfl, S2.out, HZ2.out, hg2⟩
  case round =>
    obtain ⟨k, hk, rfl, hst, hzr, hgl⟩ := hrel
    have SK := Lib.hid hst
    have HZ := Lib.hid hzr
    clear hst hzr S2 HZ2
    obtain ⟨p0, p1, _, _⟩ := SK.out.box.two
    by_cases hlt : k < q
    · have hwl := wayF_len HA.out HO.out k
      have HWL := Lib.hid (show (ofN (wayF ls ts us k).reverse).length ≤ 10 by rw [ofN_len, List.length_reverse]; have := HTL.out; omega)
      have HWE := Lib.hid (show (ofN (wayF ls ts us k).reverse).length = (wayF ls ts us k).length by rw [ofN_len, List.length_reverse])
      have ii0 : (k : Int) < (q : Int) := by omega
      have ii00 : (0 : Int) ≤ (k : Int) := by omega
      clear hwl
      go_wp2_with fail
      refine (l6Way_any q _ n c ls ts us _ cap k _ (HR.out.below SK.out.bel) HS.out HA.out HO.out HZ.out hlt).mono ?_
      rintro e w3 ⟨v2, rfl, hO3, hb3⟩
      have hlt3 := OwnI.lt hO3
      obtain ⟨A2, c2, rfl, hZ3⟩ := hO3.sl
      have S3 := Lib.hid (SK.out.next hb3)
      have HZ3 := Lib.hid (HZ.out.below hb3)
      have HW3 := Lib.hid hZ3
      have hgl3 : g < w3.heap.size := Nat.lt_of_lt_of_le hgl hb3.size
      have HFAR := Lib.hid (show ∀ b off, A2 = some ⟨b, off, none⟩ → b ≠ w.heap.size + 1 from fun b off e => by subst e; have := (hlt3 b rfl).1; omega)
      obtain ⟨b', off', u, rfl, hb', hku, _, g1⟩ := HU.out.at_ hlt
      have hld := ld_at hku
      have HLD := Lib.hid hld
      have HF0 := Lib.hid (floMid_all (ls := ls) (ts := ts) (us := us) (m := m) (k := k))
      clear hO3 hZ3 hlt3 SK HZ p0 p1 hku hld hb3
      generalize hL : (ofN (wayF ls ts us k).reverse).length = len at *
      have HLL := Lib.hid hL
      clear hL
      have hlen10 := HWL.out
      go_wp2
      go_loopw [11] (fun i wx => ∃ j : Nat, j ≤ len ∧ i = .int .i64 j ∧ NumSt w wx q n c A (.slice (some ⟨w.heap.size + 1, 0, none⟩) m m) (floMid ls ts us m k j) ∧ RowZ wx A2 len (ofN (wayF ls ts us k).reverse) ∧ RowZ wx (some ⟨g, 0, none⟩) q (parF ls ts us q) ∧ g < wx.heap.size) (fun i _ => len - (intOf i).toNat)
      case atStart => exact ⟨0, by omega, rfl, by rw [floMid_zero]; exact S3.out, HW3.out, HZ3.out, hgl3⟩
      case round =>
        obtain ⟨j, hj, rfl, hst, hwr, hzr, hgx⟩ := hrel
        have SJ := Lib.hid hst
        have HZJ := Lib.hid hzr
        have HWJ := Lib.hid hwr
        clear hst hzr hwr S3 HZ3 HW3
        by_cases hjl : j < len
        · obtain ⟨b2, off2, z, rfl, hbl2, hkz, c0⟩ := HWJ.out.at_ hjl
          have hjr : (wayF ls ts us k).reverse[j]? = some ((wayF ls ts us k).reverse[j]'(by have := HLL.out; rw [ofN_len] at this; omega)) := List.getElem?_eq_getElem _
          generalize ((wayF ls ts us k).reverse[j]'(by have := HLL.out; rw [ofN_len] at this; omega)) = l at hjr
          rw [ofN_get hjr] at hkz
          injection hkz with hkz
          subst hkz
          have hlm : l < m := by
            have h1 := (wayF_on (List.mem_reverse.1 (List.mem_of_getElem? hjr)) HA.out HO.out).1
            have h2 := HTL.out
            omega
          obtain ⟨hget, hnext⟩ := floMid_next HA.out HO.out hlm hjr
          obtain ⟨hat0, hat1, _, hat3, hat4, _⟩ := SJ.out.own.at1
          have c1 := hat4 l _ hget
          have f1 := hat3 l
          have hbd := floTo_bd (ls := ls) (ts := ts) HBU.out (show k ≤ 8 by omega) l
          have hbd2 := ld_bd HBU.out k
          have HN := Lib.hid hnext
          rw [HLD.out] at hbd2 HN
          generalize gsum (wB ls ts us l) (ld us) k = Z at *
          have g1' := g1
          rw [← SJ.out.bel.cell (p := ⟨b', off' + k * 2 + 1, none⟩) hb'] at g1'
          have jj0 : (0 : Int) ≤ (j : Int) := by omega
          have jj1 : (j : Int) < (len : Int) := by omega
          have jj2 : (0 : Int) ≤ (l : Int) := by omega
          have jj3 : (l : Int) < (m : Int) := by omega
          have hwz : IntKind.i64.wrap (Z + u.2) = Z + u.2 := IntWalk.i64_in _ (by omega)
          have S5 := Lib.hid (SJ.out.put l (Z + u.2))
          have HW5 := Lib.hid (RowV.grown HWJ.out (grown_put wr (w.heap.size + 1) l (.int .i64 (Z + u.2))) (fun b off e e2 => by injection e2 with e2; exact HFAR.out b off e e2.symm))
          have HZ5 := Lib.hid (RowV.grown HZJ.out (grown_put wr (w.heap.size + 1) l (.int .i64 (Z + u.2))) (fun b off e e2 => by injection e with e; injection e with e; injection e2 with e2; omega))
          clear hget hnext hat0 hat1 hat3 hat4 hbd hbd2 hjr
          go_wp2
          go_region
          go_wp2
          go_roundw
          case rel => exact ⟨j + 1, by omega, by go_num, by rw [HN.out]; exact ⟨S5.out.own, S5.out.bel.drew, S5.out.box⟩, HW5.out, HZ5.out, by simpa [World.setCell] using hgx⟩
          case measure => simp [intOf]; omega
        · obtain rfl : j = len := by omega
          go_wp2
          go_roundw
          case rel => exact ⟨k + 1, by omega, by go_num, by rw [← HF0.out, ← HWE.out]; exact SJ.out, HZJ.out, hgx⟩
          case measure => simp [intOf]; omega
    · obtain rfl : k = q := by omega
      go_wp2
      go_ret
      exact ⟨_, rfl, OwnI.more SK.out.own (by omega), SK.out.bel⟩
set_option maxRecDepth 100000 in
set_option maxHeartbeats 2000000 in
theorem l7Over_any (nb : Nat) (A : Option Addr) (n c : Nat) (ls : List L3) (B : Option Addr) (m d : Nat) (ts : List Bool) (U : Option Addr) (q r : Nat) (us : List U2) (w : World) (hr : RowL w A n ls) (hrt : RowT w B m ts) (hu : RowU w U q us)
    (h : radF nb ls ts us = true) :
    Calls Try.prog 66 #[.agg #[.int .i64 (nb : Int), .slice A n c], .slice B m d, .slice U q r] w fun e w' => ∃ v, e = .returned v ∧ OwnI 3 w' w.heap.size v (ovlF nb ls ts us) ∧ Below w.heap.size w w' := by
  obtain ⟨i0, hi, hz0, hz1, hz2⟩ := info_parts intInfo6
  have HI := Lib.hid hi
  have HR := Lib.hid hr
  have HT := Lib.hid hrt
  have HU := Lib.hid hu
  have HH := Lib.hid h
  have hok := (radF_iff.1 h).1
  have hml := stOk_len (okU_st hok)
  have hlt := hrt.len
  have hll := hr.1
  have hmn : m ≤ n := by omega
  have hm10 : m ≤ 10 := by omega
  have HF := Lib.hid (show ovlF nb ls ts us = ofN (ovTo ls ts us nb m) by rw [ovlF, if_pos h, hlt]; rfl)
  clear hr hrt hu h hok hi hml hlt hll
  have S0 := Lib.hid (numSt_start w nb n c A)
  go_enter Try.func66, Try.ntmps66
  go_upto_region 2 with fail
  generalize (w.alloc (.cells #[.int .i64 (nb : Int), .slice A n c] 33)).alloc (.cells #[] 3) = W0 at *
  obtain ⟨p0, p1, _, _⟩ := S0.out.box.two
  go_wp2_with fail
  refine (l7Flows_any nb _ n c ls _ m d ts _ q r us _ (HR.out.below S0.out.bel) (HT.out.below S0.out.bel) (HU.out.below S0.out.bel) HH.out).mono ?_
  rintro e w2 ⟨g, rfl, hO2, hb2⟩
  have S2 := Lib.hid (S0.out.next hb2)
  have HZ2 := Lib.hid (OwnI.rowZ hO2)
  have hg1 : W0.heap.size ≤ g := hO2.at1.1
  have hown1 := OwnI.lt S0.out.own
  have hg2 : g < w2.heap.size := hO2.at1.2.1
  clear S0 p0 p1 hO2 hb2
  go_wp2
  go_loopw [7, 9] (fun v i wr => ∃ k : Nat, k ≤ m ∧ i = .int .i64 k ∧ NumSt w wr nb n c A v (ofN (ovTo ls ts us nb k)) ∧ RowZ wr (some ⟨g, 0, none⟩) m (floL ls ts us nb m) ∧ g < wr.heap.size ∧ ∀ q, v.ownBlock = some q → q ≠ g) (fun _ i _ => m - (intOf i).toNat)
  case atStart => exact ⟨0, by omega, rfl, S2.out, HZ2.out, hg2, fun q hq e => by have := (hown1 q hq).2; omega⟩
  case round =>
    obtain ⟨k, hk, rfl, hst, hzr, hgl, hfar⟩ := hrel
    have SK := Lib.hid hst
    have HZ := Lib.hid hzr
    have HFAR := Lib.hid hfar
    clear hst hzr hfar S2 HZ2
    obtain ⟨p0, p1, _, _⟩ := SK.out.box.two
    by_cases hlt : k < m
    · have HN := Lib.hid (ovTo_next ls ts us nb k)
      have hle2 : (ofN (ovTo ls ts us nb k)).length ≤ k := by rw [ofN_len]; exact ovTo_len ls ts us nb k
      obtain ⟨bl, offl, z, e9, hbl, hkz, c0⟩ := HZ.out.at_ hlt
      injection e9 with e9
      injection e9 with e91 e92
      subst e91 e92
      rw [floL_get hlt] at hkz
      injection hkz with hkz
      rw [Nat.zero_add] at c0
      obtain ⟨b, off, l, rfl, hb, hkl, g2⟩ := line_at (HR.out.below SK.out.bel) (show k < n by omega)
      have hmo := mostOf_at hkl
      rw [hmo, hkz] at HN
      have ii0 : (0 : Int) ≤ (k : Int) := by omega
      have ii1 : (k : Int) < (m : Int) := by omega
      have ii2 : (k : Int) < (n : Int) := by omega
      have hbz := SK.out.box.lt
      clear hmo hkl hkz
      by_cases hov : l.2.2 < z
      · rw [if_pos hov] at HN
        go_wp2
        go_region
        go_wp2_with (
          at_builtin
          refine wpList_append_lies _ rfl _ _ _ rfl (w.heap.size + 1) 3 i0 (.int .i64 0) 1 8 Try.underlying27 HI.out hz0 hz1 hz2 rfl (by decide) _ _ _ rfl (World.ownsRow.alloc (show OwnI 3 wr.drew (w.heap.size + 1) _ _ from SK.out.own) _) ⟨wr.heap.size, 0, none⟩ 1 1 [.int .i64 (k : Int)] rfl rfl ?c1 ?c2 (by decide) ?c3 ?c4 ?c5 _ rfl ?_
          case c1 => exact cell_one_new _ _ _
          case c2 => intro u hu; simp at hu; subst hu; rfl
          case c3 => simp only [maxLen]; omega
          case c4 => omega
          case c5 => simp; omega
          intro g' cap' w5 hown' hgrow hat _
          have S5 := Lib.hid (NumSt.push (wr := wr.drew) ⟨SK.out.own, SK.out.bel.drew, SK.out.box⟩ (zs' := ofN (ovTo ls ts us nb (k + 1))) (.cells #[.int .i64 (k : Int)] 3) (by rw [HN.out]; simpa [OwnI] using hown') hgrow)
          have HZ5 := Lib.hid (RowV.grown ((show RowZ wr.drew _ _ _ from HZ.out).below (below_bx wr.drew (.cells #[.int .i64 (k : Int)] 3))) hgrow (fun b off e e2 => HFAR.out _ e2 (by injection e with e; injection e with e; exact e.symm)))
          have HG5 := Lib.hid hgrow.size
          have HAT := Lib.hid hat)
        go_roundw
        case rel =>
          refine ⟨k + 1, by omega, by go_num, S5.out, HZ5.out, by have := HG5.out; simp at this; omega, fun q hq e => ?_⟩
          have e3 : g' = q := by simpa [Value.ownBlock] using hq
          rcases HAT.out with h | h
          · exact HFAR.out _ h (by omega)
          · simp at h; omega
        case measure => simp [intOf]; omega
      · rw [if_neg hov] at HN
        go_wp2
        go_region
        go_wp2
        go_roundw
        case rel => exact ⟨k + 1, by omega, by go_num, by rw [HN.out]; exact ⟨by simp only [List.append_nil]; exact SK.out.own, SK.out.bel.drew, SK.out.box⟩, HZ.out, hgl, HFAR.out⟩
        case measure => simp [intOf]; omega
    · obtain rfl : k = m := by omega
      go_wp2
      go_ret
      exact ⟨_, rfl, by rw [HF.out]; exact OwnI.more SK.out.own (by omega), SK.out.bel⟩

theorem ovlF_len (bs : Int) (ls : List L3) (ts : List Bool) (us : List U2) : (ovlF bs ls ts us).length ≤ 10 := by
  rw [ovlF]
  split
  · rename_i h
    rw [ofN_len]
    exact Nat.le_trans (ovTo_len _ _ _ _ _) (stOk_len (okU_st (radF_iff.1 h).1)).2
  · simp
theorem holdG {w0 w w' : World} {X b o : Nat} {u v z : Value} (p0 : w.cell? ⟨X, 0, none⟩ = some u) (p1 : w.cell? ⟨X, 1, none⟩ = some v) (hX : X < w.heap.size) (e0 : w.cell? ⟨b, o, none⟩ = some z) (hbe : b < w.heap.size) (h0 : Below w0.heap.size w0 w) (hb : Below w.heap.size w w') :
    Below w0.heap.size w0 w' ∧ w'.cell? ⟨X, 0, none⟩ = some u ∧ w'.cell? ⟨X, 1, none⟩ = some v ∧ w'.cell? ⟨b, o, none⟩ = some z :=
  ⟨h0.trans (hb.mono h0.size), (hb.cell (p := ⟨X, 0, none⟩) hX).trans p0, (hb.cell (p := ⟨X, 1, none⟩) hX).trans p1, (hb.cell (p := ⟨b, o, none⟩) hbe).trans e0⟩
theorem enough_yes {ls : List L3} {ts : List Bool} {us : List U2} {nb k : Nat} (h : EnoughTo ls ts us nb k) (h2 : 0 < fd us k → isum (edgesOn ls ts) nb (ld us) k ≤ fd us k) : EnoughTo ls ts us nb (k + 1) := by
  intro b hb hf
  by_cases e : b = k
  · subst e; exact h2 hf
  · exact h b (by omega) hf

set_option linter.unusedSimpArgs false in
set_option maxRecDepth 100000 in
set_option maxHeartbeats 8000000 in
theorem l7Good_any (nb : Nat) (A : Option Addr) (n c : Nat) (ls : List L3) (B : Option Addr) (m d : Nat) (ts : List Bool) (U : Option Addr) (q r : Nat) (us : List U2) (w : World) (hn : n ≤ 1048576) (hr : RowL w A n ls) (hm : m ≤ 1048576) (hrt : RowT w B m ts) (hq : q ≤ 1048576) (hu : RowU w U q us)
    (h : radF nb ls ts us = true) :
    Calls Try.prog 53 #[.agg #[.int .i64 (nb : Int), .slice A n c], .slice B m d, .slice U q r] w fun e w' => e = .returned (.bool (godF nb ls ts us)) ∧ Below w.heap.size w w' := by
  have HR := Lib.hid hr
  have HT := Lib.hid hrt
  have HU := Lib.hid hu
  have HH := Lib.hid h
  have hok := (radF_iff.1 h).1
  have HOK := Lib.hid hok
  have hqn : q = nb := by have := busesOk_len (okU_bu hok); have := hu.len; omega
  subst hqn
  have HG := Lib.hid (show godF q ls ts us = true ↔ (ovlF q ls ts us).length = 0 ∧ EnoughTo ls ts us q q by rw [godF_iff]; exact ⟨fun h => h.2, fun h2 => ⟨h, h2⟩⟩)
  have HOL := Lib.hid (ovlF_len q ls ts us)
  have hbx := below_bx w (.cells #[.int .i64 (q : Int), .slice A n c] 33)
  have BX := Lib.hid (IsBlk.new w 33 #[.int .i64 (q : Int), .slice A n c])
  clear hr hrt hu h hok
  go_enter Try.func53, Try.ntmps53
  go_upto_region 1 with fail
  generalize w.alloc (.cells #[.int .i64 (q : Int), .slice A n c] 33) = W0 at *
  go_wp2
  go_loopw [7] (fun i wr => ∃ k : Nat, k ≤ q ∧ i = .int .i64 k ∧ Below W0.heap.size W0 wr ∧ EnoughTo ls ts us q k) (fun i _ => q - (intOf i).toNat)
  case atStart => exact ⟨0, by omega, rfl, Below.refl _ _, fun b hb => absurd hb (by omega)⟩
  case round =>
    obtain ⟨k, hk, rfl, hbel, hen⟩ := hrel
    have HEN := Lib.hid hen
    have hbw : Below w.heap.size w wr := hbx.trans (hbel.mono hbx.size)
    have K1 := Lib.hid (BX.out.keep hbel)
    obtain ⟨p0, p1, _, _⟩ := K1.out.two
    clear hen
    by_cases hlt : k < q
    · obtain ⟨b', off', u, rfl, hb', hku, g0, _⟩ := (HU.out.below hbw).at_ hlt
      have HFD := Lib.hid (fd_at hku)
      have HLO := Lib.hid (feedF_in HOK.out hlt).2
      have ii0 : (0 : Int) ≤ (k : Int) := by omega
      have ii1 : (k : Int) < (q : Int) := by omega
      have hXl := K1.out.lt
      clear hku
      by_cases hf : 0 < u.1
      · have CI := Lib.hid (fun (W : World) (hW : Below W0.heap.size W0 W) => specLoad_any q A n c ls B m d ts (some ⟨b', off', none⟩) q r us k W hn (HR.out.below (hbx.trans (hW.mono hbx.size))) hm (HT.out.below (hbx.trans (hW.mono hbx.size))) hq (HU.out.below (hbx.trans (hW.mono hbx.size))))
        have hXL : ¬ loadF q ls ts us k ≤ u.1 → godF q ls ts us = false := fun h => by
          rw [Bool.eq_false_iff]
          intro h2
          have := (HG.out.1 h2).2 k hlt (by rw [HFD.out]; exact hf)
          rw [← HLO.out, HFD.out] at this
          exact h this
        have HBAD := Lib.hid hXL
        have HYES := Lib.hid (fun (h : loadF q ls ts us k ≤ u.1) => enough_yes HEN.out (fun _ => by rw [← HLO.out, HFD.out]; exact h))
        clear hXL
        generalize loadF q ls ts us k = L at *
        go_wp2
        go_region_held3 (fun w' => Below W0.heap.size W0 w' ∧ w'.cell? ⟨w.heap.size, 0, none⟩ = some (.int .i64 (q : Int)) ∧ w'.cell? ⟨w.heap.size, 1, none⟩ = some (.slice A n c) ∧ w'.cell? ⟨b', off' + k * 2, none⟩ = some (.int .i64 u.1))
          (first | exact holdG p0 p1 hXl g0 hb' hbel hB5 | exact holdG p0 p1 hXl g0 hb' hbel (Below.refl _ _) | exact holdG p0 p1 hXl g0 hb' hbel (Below.drew (Below.refl _ _)))
          (first
            | (go_at_call 65; (with_reducible refine (CI.out _ (And.left (by assumption))).mono ?_); rintro e w5 ⟨rfl, hb5⟩; have hB5 : Below wr.heap.size wr w5 := (Below.drew (Below.refl _ _)).trans hb5))
        by_cases hle : L ≤ u.1
        · have HN := Lib.hid (HYES.out (by omega))
          have hle2 : ¬ u.1 < L := by omega
          go_wp2
          go_roundw
          case rel => exact ⟨k + 1, by omega, by go_num, hbel.trans (hB5.mono hbel.size), HN.out⟩
          case measure => simp [intOf]; omega
        · have HB := Lib.hid (HBAD.out (by omega))
          have hle2 : u.1 < L := by omega
          go_wp2
          go_ret
          exact ⟨retB HB.out.symm, hbw.trans (hB5.mono hbw.size)⟩
      · have HN := Lib.hid (enough_yes HEN.out (fun h => absurd (by rw [HFD.out] at h; exact h) hf))
        go_wp2
        refine wp_region_held_drew (S := (fun w' : World => w'.cell? ⟨w.heap.size, 0, none⟩ = some (.int .i64 (q : Int)) ∧ w'.cell? ⟨b', off' + k * 2, none⟩ = some (.int .i64 u.1))) (by kernel_rfl) (⟨p0, g0⟩) (fun hHeld => ?_)
        refine wpAnyH_take (i := 0) (v := .slice (some ⟨b', off', none⟩) q r) rfl (by kernel_rfl) (by kernel_rfl) (by kernel_rfl) (fun _ _ _ h => h) (Or.inl ⟨by kernel_rfl, fun w hSw => by (try dsimp only at hSw); go_simp⟩) hHeld ?_
        try simp only [Act.put, List.getElem_toArray, List.getElem_cons_zero, List.getElem_cons_succ, List.setIfInBounds_toArray, List.set_cons_zero, List.set_cons_succ]
        refine wpAnyH_take (i := 1) (v := .int .i64 (k : Int)) rfl (by kernel_rfl) (by kernel_rfl) (by kernel_rfl) (fun _ _ _ h => h) (Or.inl ⟨by kernel_rfl, fun w hSw => by (try dsimp only at hSw); go_simp⟩) hHeld ?_
        try simp only [Act.put, List.getElem_toArray, List.getElem_cons_zero, List.getElem_cons_succ, List.setIfInBounds_toArray, List.set_cons_zero, List.set_cons_succ]
        refine wpAnyH_take (i := 2) (v := .pointer (some ⟨b', off' + k * 2, none⟩)) rfl (by kernel_rfl) (by kernel_rfl) (by kernel_rfl) (fun _ _ _ h => h) (Or.inl ⟨by kernel_rfl, fun w hSw => by (try dsimp only at hSw); go_simp⟩) hHeld ?_
        try simp only [Act.put, List.getElem_toArray, List.getElem_cons_zero, List.getElem_cons_succ, List.setIfInBounds_toArray, List.set_cons_zero, List.set_cons_succ]
        refine wpAnyH_take (i := 3) (v := .pointer (some ⟨b', off' + k * 2, none⟩)) rfl (by kernel_rfl) (by kernel_rfl) (by kernel_rfl) (fun _ _ _ h => h) (Or.inl ⟨by kernel_rfl, fun w hSw => by (try dsimp only at hSw); go_simp⟩) hHeld ?_
        try simp only [Act.put, List.getElem_toArray, List.getElem_cons_zero, List.getElem_cons_succ, List.setIfInBounds_toArray, List.set_cons_zero, List.set_cons_succ]
        refine wpAnyH_take (i := 4) (v := .int .i64 u.1) rfl (by kernel_rfl) (by kernel_rfl) (by kernel_rfl) (fun _ _ _ h => h) (Or.inl ⟨by kernel_rfl, fun w hSw => by (try dsimp only at hSw); go_simp⟩) hHeld ?_
        try simp only [Act.put, List.getElem_toArray, List.getElem_cons_zero, List.getElem_cons_succ, List.setIfInBounds_toArray, List.set_cons_zero, List.set_cons_succ]
        refine wpAnyH_take (i := 5) (v := .bool false) rfl (by kernel_rfl) (by kernel_rfl) (by kernel_rfl) (fun _ _ _ h => h) (Or.inl ⟨by kernel_rfl, fun w hSw => by (try dsimp only at hSw); go_simp⟩) hHeld ?_
        try simp only [Act.put, List.getElem_toArray, List.getElem_cons_zero, List.getElem_cons_succ, List.setIfInBounds_toArray, List.set_cons_zero, List.set_cons_succ]
        refine wpAnyH_take (i := 6) (v := .bool false) rfl (by kernel_rfl) (by kernel_rfl) (by kernel_rfl) (fun _ _ _ h => h) (Or.inl ⟨by kernel_rfl, fun w hSw => by (try dsimp only at hSw); go_simp⟩) hHeld ?_
        try simp only [Act.put, List.getElem_toArray, List.getElem_cons_zero, List.getElem_cons_succ, List.setIfInBounds_toArray, List.set_cons_zero, List.set_cons_succ]
        refine wpAnyH_take (i := 7) (v := undef) rfl (by kernel_rfl) (by kernel_rfl) (by kernel_rfl) (fun _ _ _ h => h) (Or.inr ⟨by kernel_rfl, rfl⟩) hHeld ?_
        try simp only [Act.put, List.getElem_toArray, List.getElem_cons_zero, List.getElem_cons_succ, List.setIfInBounds_toArray, List.set_cons_zero, List.set_cons_succ]
        refine wpAnyH_take (i := 8) (v := undef) rfl (by kernel_rfl) (by kernel_rfl) (by kernel_rfl) (fun _ _ _ h => h) (Or.inr ⟨by kernel_rfl, rfl⟩) hHeld ?_
        try simp only [Act.put, List.getElem_toArray, List.getElem_cons_zero, List.getElem_cons_succ, List.setIfInBounds_toArray, List.set_cons_zero, List.set_cons_succ]
        refine wpAnyH_take (i := 9) (v := undef) rfl (by kernel_rfl) (by kernel_rfl) (by kernel_rfl) (fun _ _ _ h => h) (Or.inr ⟨by kernel_rfl, rfl⟩) hHeld ?_
        try simp only [Act.put, List.getElem_toArray, List.getElem_cons_zero, List.getElem_cons_succ, List.setIfInBounds_toArray, List.set_cons_zero, List.set_cons_succ]
        refine wpAnyH_take (i := 10) (v := undef) rfl (by kernel_rfl) (by kernel_rfl) (by kernel_rfl) (fun _ _ _ h => h) (Or.inr ⟨by kernel_rfl, rfl⟩) hHeld ?_
        try simp only [Act.put, List.getElem_toArray, List.getElem_cons_zero, List.getElem_cons_succ, List.setIfInBounds_toArray, List.set_cons_zero, List.set_cons_succ]
        refine wpAnyH_take (i := 11) (v := undef) rfl (by kernel_rfl) (by kernel_rfl) (by kernel_rfl) (fun _ _ _ h => h) (Or.inr ⟨by kernel_rfl, rfl⟩) hHeld ?_
        try simp only [Act.put, List.getElem_toArray, List.getElem_cons_zero, List.getElem_cons_succ, List.setIfInBounds_toArray, List.set_cons_zero, List.set_cons_succ]
        refine wpAnyH_take (i := 12) (v := undef) rfl (by kernel_rfl) (by kernel_rfl) (by kernel_rfl) (fun _ _ _ h => h) (Or.inr ⟨by kernel_rfl, rfl⟩) hHeld ?_
        try simp only [Act.put, List.getElem_toArray, List.getElem_cons_zero, List.getElem_cons_succ, List.setIfInBounds_toArray, List.set_cons_zero, List.set_cons_succ]
        refine wpAnyH_take (i := 13) (v := undef) rfl (by kernel_rfl) (by kernel_rfl) (by kernel_rfl) (fun _ _ _ h => h) (Or.inr ⟨by kernel_rfl, rfl⟩) hHeld ?_
        try simp only [Act.put, List.getElem_toArray, List.getElem_cons_zero, List.getElem_cons_succ, List.setIfInBounds_toArray, List.set_cons_zero, List.set_cons_succ]
        refine wpAnyH_take (i := 14) (v := undef) rfl (by kernel_rfl) (by kernel_rfl) (by kernel_rfl) (fun _ _ _ h => h) (Or.inr ⟨by kernel_rfl, rfl⟩) hHeld ?_
        try simp only [Act.put, List.getElem_toArray, List.getElem_cons_zero, List.getElem_cons_succ, List.setIfInBounds_toArray, List.set_cons_zero, List.set_cons_succ]
        refine wpAnyH_take (i := 15) (v := undef) rfl (by kernel_rfl) (by kernel_rfl) (by kernel_rfl) (fun _ _ _ h => h) (Or.inr ⟨by kernel_rfl, rfl⟩) hHeld ?_
        try simp only [Act.put, List.getElem_toArray, List.getElem_cons_zero, List.getElem_cons_succ, List.setIfInBounds_toArray, List.set_cons_zero, List.set_cons_succ]
        refine wpAnyH_take (i := 16) (v := undef) rfl (by kernel_rfl) (by kernel_rfl) (by kernel_rfl) (fun _ _ _ h => h) (Or.inr ⟨by kernel_rfl, rfl⟩) hHeld ?_
        try simp only [Act.put, List.getElem_toArray, List.getElem_cons_zero, List.getElem_cons_succ, List.setIfInBounds_toArray, List.set_cons_zero, List.set_cons_succ]
        refine wpAnyH_take (i := 17) (v := undef) rfl (by kernel_rfl) (by kernel_rfl) (by kernel_rfl) (fun _ _ _ h => h) (Or.inr ⟨by kernel_rfl, rfl⟩) hHeld ?_
        try simp only [Act.put, List.getElem_toArray, List.getElem_cons_zero, List.getElem_cons_succ, List.setIfInBounds_toArray, List.set_cons_zero, List.set_cons_succ]
        refine wpAnyH_take (i := 18) (v := .bool false) rfl (by kernel_rfl) (by kernel_rfl) (by kernel_rfl) (fun _ _ _ h => h) (Or.inl ⟨by kernel_rfl, fun w hSw => by (try dsimp only at hSw); go_simp⟩) hHeld ?_
        try simp only [Act.put, List.getElem_toArray, List.getElem_cons_zero, List.getElem_cons_succ, List.setIfInBounds_toArray, List.set_cons_zero, List.set_cons_succ]
        refine wpAnyH_done (by kernel_rfl) ?_ _
        clear hHeld
        go_wp2
        go_roundw
        case rel => exact ⟨k + 1, by omega, by go_num, hbel.drew, HN.out⟩
        case measure => simp [intOf]; omega
    · obtain rfl : k = q := by omega
      have HT2 := Lib.hid HEN.out
      go_wp2_with fail
      refine (l7Over_any k _ n c ls _ m d ts _ k r us _ (HR.out.below hbw) (HT.out.below hbw) (HU.out.below hbw) HH.out).mono ?_
      rintro e w2 ⟨v, rfl, hO2, hb2⟩
      obtain ⟨A2, c2, rfl, _⟩ := hO2.sl
      clear hO2
      by_cases hz : (ovlF k ls ts us).length = 0
      · have HY := Lib.hid (HG.out.2 ⟨hz, HT2.out⟩)
        rw [hz]
        go_wp2
        go_ret
        exact ⟨retB HY.out.symm, hbw.trans (hb2.mono hbw.size)⟩
      · have HB := Lib.hid (show godF k ls ts us = false by
          rw [Bool.eq_false_iff]
          intro h
          exact hz (HG.out.1 h).1)
        have hzb : (((ovlF k ls ts us).length : Int) == 0) = false := by simpa using hz
        have hl10 := HOL.out
        generalize (ovlF k ls ts us).length = len at *
        go_wp2
        go_ret
        exact ⟨retB HB.out.symm, hbw.trans (hb2.mono hbw.size)⟩

end Go.Proofs.Ytpmkeagdoehbhaa
