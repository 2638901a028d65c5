/- The lines by which buses are fed, of the model: passes over the lines. -/
import Derived.Test.YtpmkeagdoehbhaaDoorBHD
import Derived.Test.YtpmkeagdoehbhaaDoorBHC
import Derived.Test.YtpmkeagdoehbhaaDoorBFA
namespace Go.Proofs.YtpmkeagdoehbhaaDoor
open Go.ChangeShapes Go.WideShapes Go.ChangeAt Go.RowKit

/-- A slice of the call's own, one cell written in place. -/
theorem OwnI.at1 {w : World} {base g n cap : Nat} {zs : List Int} (h : OwnI 3 w base (.slice (some ⟨g, 0, none⟩) n cap) zs) : base ≤ g ∧ g < w.heap.size ∧ zs.length = n ∧
    (∀ k, w.frozen? ⟨g, k, none⟩ = false) ∧ (∀ k x, zs[k]? = some x → w.cell? ⟨g, k, none⟩ = some (.int .i64 x)) ∧
    ∀ (i : Nat) (y : Int), OwnI 3 (w.setCell ⟨g, i, none⟩ (.int .i64 y)) base (.slice (some ⟨g, 0, none⟩) n cap) (zs.set i y) := by
  rcases h.2 with ⟨h1, h0⟩ | ⟨g', cap', cur, h1, hb, hg, hn, hc, hsz, ht⟩
  · cases h1
  · injection h1 with e1 e2 e3
    injection e1 with e1
    injection e1 with e1
    subst e1 e2 e3
    have hB : IsBlk w g 3 cur := hg
    refine ⟨hb, hB.lt, rfl, fun k => hB.thaw k, fun k x hk => ?_, fun i y => ?_⟩
    · have hlt : k < zs.length := (List.getElem?_eq_some_iff.1 hk).1
      rw [hB.cell, ← Array.getElem?_toList]
      have e : (cur.toList.take (zs.length * 1))[k]? = some (.int .i64 x) := by rw [ht, List.getElem?_map, hk]; rfl
      rw [List.getElem?_take_of_lt (by omega)] at e
      exact e
    · refine ⟨by simp, .inr ⟨g, cap, _, by simp, hb, hB.put i _, by simpa using hn, hc, by simpa using hsz, ?_⟩⟩
      simp only [List.length_set]
      rw [Array.toList_setIfInBounds, List.take_set, ht, List.map_set]
theorem own_some {w : World} {base : Nat} {v : Value} {zs : List Int} (h : OwnI 3 w base v zs) (h0 : 0 < zs.length) : ∃ g cap, v = .slice (some ⟨g, 0, none⟩) zs.length cap := by
  rcases h.2 with ⟨_, h1⟩ | ⟨g, cap, cur, h1, _⟩
  · omega
  · exact ⟨g, cap, h1⟩
theorem NumSt.put {w wr : World} {bs : Int} {n c g k cap : Nat} {A : Option Addr} {zs : List Int} (h : NumSt w wr bs n c A (.slice (some ⟨g, 0, none⟩) k cap) zs) (i : Nat) (y : Int) : NumSt w (wr.setCell ⟨g, i, none⟩ (.int .i64 y)) bs n c A (.slice (some ⟨g, 0, none⟩) k cap) (zs.set i y) := by
  obtain ⟨h1, _, _, _, _, hput⟩ := h.own.at1
  exact ⟨hput i y, h.bel.setCell (p := ⟨g, i, none⟩) (show w.heap.size ≤ g by omega) _, h.box.far (show w.heap.size ≠ g by omega) _⟩
theorem getD_of {out : List Int} {b : Nat} {z : Int} (h : out[b]? = some z) : out.getD b (-2) = z := by rw [List.getD_eq_getElem?_getD, h]; rfl

set_option maxRecDepth 100000 in
set_option maxHeartbeats 4000000 in
theorem l6Parents_any (nb : Nat) (A : Option Addr) (n c : Nat) (ls : List L3) (B : Option Addr) (m d : Nat) (ts : List Bool) (U : Option Addr) (q r : Nat) (us : List U2) (w : World) (hr : RowL w A n ls) (hrt : RowT w B m ts) (hu : RowU w U q us)
    (h : radF nb ls ts us = true) :
    Calls Tryd.prog 53 #[.agg #[.int .i64 (nb : Int), .slice A n c], .slice B m d, .slice U q r] w fun e w' => ∃ g cap, e = .returned (.slice (some ⟨g, 0, none⟩) nb cap) ∧ OwnI 3 w' w.heap.size (.slice (some ⟨g, 0, none⟩) nb cap) (parF ls ts us nb) ∧ Below w.heap.size w w' := by
  obtain ⟨i0, hi, hz0, hz1, hz2⟩ := info_parts intInfo6
  have HI := Lib.hid hi
  have HR := Lib.hid hr
  have HT := Lib.hid hrt
  have HU := Lib.hid hu
  obtain ⟨hok, ha, ho⟩ := radF_iff.1 h
  have HA := Lib.hid ha
  have HO := Lib.hid ho
  have hbs := okU_bs hok
  have hnb : nb ≤ 8 := by omega
  have hlen := stOk_len (okU_st hok)
  have HV := Lib.hid (stOk_net (okU_st hok))
  have hqn : q = nb := by have := busesOk_len (okU_bu hok); have := hu.len; omega
  subst hqn
  have hmn : m = n := by have := hr.1; have := hrt.len; omega
  subst hmn
  have hm10 : m ≤ 10 := by have := hrt.len; omega
  have HTL := Lib.hid hrt.len
  have HLL := Lib.hid hr.1
  have HUL := Lib.hid hu.len
  have hq1 : 1 ≤ q := by omega
  have hbx := below_bx w (.cells #[.int .i64 (q : Int), .slice A m c] 25)
  have BX := Lib.hid (IsBlk.new w 25 #[.int .i64 (q : Int), .slice A m c])
  have hown0 := own_lit (w.alloc (.cells #[.int .i64 (q : Int), .slice A m c] 25))
  simp only [World.size_alloc] at hown0
  have S0 := Lib.hid (show NumSt w ((w.alloc (.cells #[.int .i64 (q : Int), .slice A m c] 25)).alloc (.cells #[] 3)) q m c A (.slice (some ⟨w.heap.size + 1, 0, none⟩) 0 0) [] from
    ⟨hown0, hbx.alloc (by simp) _, BX.out.alloc (.cells #[] 3)⟩)
  clear hr hrt hu h hok ha ho hi hbs hlen hown0 hbx BX
  go_enter Tryd.func53, Tryd.ntmps53
  go_upto_region 2 with fail
  generalize (w.alloc (.cells #[.int .i64 (q : Int), .slice A m c] 25)).alloc (.cells #[] 3) = W0 at *
  go_wp2
  go_loopw [7, 8] (fun v i wr => ∃ k : Nat, k ≤ q ∧ i = .int .i64 k ∧ NumSt w wr q m c A v (par0 us k)) (fun _ i _ => q - (intOf i).toNat)
  case atStart => exact ⟨0, by omega, rfl, S0.out⟩
  case round =>
    obtain ⟨k, hk, rfl, hst⟩ := hrel
    have SK := Lib.hid hst
    clear hst S0
    obtain ⟨p0, p1, _, _⟩ := SK.out.box.two
    by_cases hlt : k < q
    · obtain ⟨b, off, u, rfl, hb, hku, g0, g1⟩ := HU.out.at_ hlt
      rw [← SK.out.bel.cell (p := ⟨b, off + k * 2, none⟩) hb] at g0
      have hfd := fd_at hku
      have hle2 : (par0 us k).length ≤ k := by rw [par0_len]; exact Nat.le_refl _
      have HN := Lib.hid (par0_succ us k)
      have ii0 : (0 : Int) ≤ (k : Int) := by omega
      have ii1 : (k : Int) < (q : Int) := by omega
      have hzw := SK.out.bel.size
      have hbz := (SK.out.box).lt
      clear hku g1
      by_cases hf : 0 < u.1
      · have HN2 := Lib.hid (show par0 us (k + 1) = par0 us k ++ [-1] by rw [HN.out, hfd, if_pos hf])
        clear HN hfd
        go_wp2_with (
          at_builtin
          refine wpList_append_own _ rfl _ _ _ rfl (w.heap.size + 1) 3 i0 (.int .i64 0) 1 8 Tryd.underlying28 HI.out hz0 hz1 hz2 rfl (by decide) _ _ _ rfl (World.ownsRow.alloc SK.out.own _) ⟨wr.heap.size, 0, none⟩ 1 1 [.int .i64 (-1)] rfl rfl ?c1 ?c2 ?c3 ?c4 ?c5 ?_
          case c1 => exact cell_one_new _ _ _
          case c2 => intro u hu; simp at hu; subst hu; rfl
          case c3 => simp only [maxLen]; omega
          case c4 => omega
          case c5 => simp; omega
          intro v' w4 hown' hgrow _
          have S4 := Lib.hid (SK.out.push (zs' := par0 us (k + 1)) (.cells #[.int .i64 (-1)] 3) (by rw [HN2.out]; simpa [OwnI] using hown') hgrow)
          clear p0 p1
          obtain ⟨p0, p1, _, _⟩ := S4.out.box.two)
        go_roundw
        case rel => exact ⟨k + 1, by omega, by go_num, S4.out⟩
        case measure => simp [intOf]; omega
      · have HN2 := Lib.hid (show par0 us (k + 1) = par0 us k ++ [-2] by rw [HN.out, hfd, if_neg hf])
        clear HN hfd
        go_wp2_with (
          at_builtin
          refine wpList_append_own _ rfl _ _ _ rfl (w.heap.size + 1) 3 i0 (.int .i64 0) 1 8 Tryd.underlying28 HI.out hz0 hz1 hz2 rfl (by decide) _ _ _ rfl (World.ownsRow.alloc SK.out.own _) ⟨wr.heap.size, 0, none⟩ 1 1 [.int .i64 (-2)] rfl rfl ?c1 ?c2 ?c3 ?c4 ?c5 ?_
          case c1 => exact cell_one_new _ _ _
          case c2 => intro u hu; simp at hu; subst hu; rfl
          case c3 => simp only [maxLen]; omega
          case c4 => omega
          case c5 => simp; omega
          intro v' w4 hown' hgrow _
          have S4 := Lib.hid (SK.out.push (zs' := par0 us (k + 1)) (.cells #[.int .i64 (-2)] 3) (by rw [HN2.out]; simpa [OwnI] using hown') hgrow)
          clear p0 p1
          obtain ⟨p0, p1, _, _⟩ := S4.out.box.two)
        go_roundw
        case rel => exact ⟨k + 1, by omega, by go_num, S4.out⟩
        case measure => simp [intOf]; omega
    · obtain rfl : k = q := by omega
      obtain ⟨g, cap, rfl⟩ := own_some SK.out.own (by rw [par0_len]; omega)
      rw [par0_len] at SK ⊢
      have R0 := Lib.hid (round_start (ls := ls) (ts := ts) HUL.out)
      go_wp2
      clear p0 p1
      go_loopw [9] (fun i wr => ∃ (j : Nat) (out : List Int), j ≤ k ∧ i = .int .i64 j ∧ NumSt w wr k m c A (.slice (some ⟨g, 0, none⟩) k cap) out ∧ RoundI ls ts us k j out) (fun i _ => k - (intOf i).toNat)
      case atStart => exact ⟨0, _, by omega, rfl, SK.out, R0.out⟩
      case round =>
        obtain ⟨j, out0, hj, rfl, hst, hrd⟩ := hrel
        have S1 := Lib.hid hst
        have RD := Lib.hid hrd
        clear hst hrd SK R0
        obtain ⟨p0, p1, _, _⟩ := S1.out.box.two
        by_cases hlt2 : j < k
        · have ii0 : (j : Int) < (k : Int) := by omega
          go_wp2
          clear p0 p1
          go_loopw [10] (fun i wr => ∃ (e : Nat) (out : List Int), e ≤ m ∧ i = .int .i64 e ∧ NumSt w wr k m c A (.slice (some ⟨g, 0, none⟩) k cap) out ∧ PassI ls ts us k out0 (fun j' _ _ => j' < e) out) (fun i _ => m - (intOf i).toNat)
          case atStart => exact ⟨0, _, by omega, rfl, S1.out, RD.out.pass⟩
          case round =>
            obtain ⟨e, out, he, rfl, hst, hps⟩ := hrel
            have S2 := Lib.hid hst
            have PS := Lib.hid hps
            clear hst hps S1
            obtain ⟨p0, p1, _, _⟩ := S2.out.box.two
            by_cases hlt3 : e < m
            · obtain ⟨b, off, rfl, hb, HC⟩ := HR.out.2 (by omega)
              have hkl : ls[e]? = some (ls[e]'(by have := HLL.out; omega)) := List.getElem?_eq_getElem _
              generalize (ls[e]'(by have := HLL.out; omega)) = l at hkl
              obtain ⟨g0, g1, g2⟩ := HC e l hkl
              rw [← S2.out.bel.cell (p := ⟨b, off + e * 3, none⟩) hb] at g0
              rw [← S2.out.bel.cell (p := ⟨b, off + e * 3 + 1, none⟩) hb] at g1
              rw [← S2.out.bel.cell (p := ⟨b, off + e * 3 + 2, none⟩) hb] at g2
              obtain ⟨b', off', t, rfl, hb', hkt, e0⟩ := HT.out.at_ hlt3
              rw [← S2.out.bel.cell (p := ⟨b', off' + e, none⟩) hb'] at e0
              have hlo := netOk_line HV.out hkl
              have hne := lineOk_ne hlo
              simp [lineOk, inB] at hlo
              have HNX := Lib.hid (fun out (h : PassI ls ts us k out0 _ out) => pass_next (out := out) hkl h)
              have HLN := Lib.hid (fun (ht : t = true) => (show Ln ls ts e l.1.toNat l.2.1.toNat ∧ Ln ls ts e l.2.1.toNat l.1.toNat from
                ⟨⟨l, hkl, by rw [hkt, ht], .inl ⟨rfl, rfl⟩⟩, ⟨l, hkl, by rw [hkt, ht], .inr ⟨rfl, rfl⟩⟩⟩))
              have HOFF := Lib.hid (fun (ht : t = false) (u v : Nat) (h : Ln ls ts e u v) => (show False by
                obtain ⟨_, _, h2, _⟩ := h; rw [hkt, ht] at h2; cases h2))
              clear hkl hkt HC
              obtain ⟨x, y, z⟩ := l
              simp only at g0 g1 g2 hlo hne HLN HNX
              obtain ⟨xa, rfl⟩ := Int.eq_ofNat_of_zero_le hlo.1.1.1.1
              obtain ⟨ya, rfl⟩ := Int.eq_ofNat_of_zero_le hlo.1.1.2.1
              have hxa : xa < k := by omega
              have hya : ya < k := by omega
              simp only [Int.toNat_natCast] at HLN HNX
              have ii1 : (0 : Int) ≤ (e : Int) := by omega
              have ii2 : (e : Int) < (m : Int) := by omega
              have ii3 : (0 : Int) ≤ (xa : Int) := by omega
              have ii4 : (xa : Int) < (k : Int) := by omega
              have ii5 : (0 : Int) ≤ (ya : Int) := by omega
              have ii6 : (ya : Int) < (k : Int) := by omega
              clear hlo
              go_upto_region 15 with fail
              have S3 := Lib.hid (S2.out.next (below_bx wr (.cells #[.int .i64 (xa : Int), .int .i64 (ya : Int), .int .i64 z] 58)))
              have LB := Lib.hid (IsBlk.new wr 58 #[.int .i64 (xa : Int), .int .i64 (ya : Int), .int .i64 z])
              have e1 := ((below_bx wr (.cells #[.int .i64 (xa : Int), .int .i64 (ya : Int), .int .i64 z] 58)).cell (p := ⟨b', off' + e, none⟩) (show b' < wr.heap.size from Nat.lt_of_lt_of_le hb' S2.out.bel.size)).trans e0
              have hgX := (S2.out.own.at1).2.1
              have hbw' : b' < w.heap.size := hb'
              clear p0 p1 g0 g1 g2 e0
              generalize wr.alloc (.cells #[.int .i64 (xa : Int), .int .i64 (ya : Int), .int .i64 z] 58) = W2 at *
              generalize wr.heap.size = X at *
              clear S2
              obtain ⟨hbg, _, hol, hfz, hcl, _⟩ := S3.out.own.at1
              obtain ⟨za, hza⟩ : ∃ z, out[xa]? = some z := ⟨_, List.getElem?_eq_getElem (by omega)⟩
              obtain ⟨zb, hzb⟩ : ∃ z, out[ya]? = some z := ⟨_, List.getElem?_eq_getElem (by omega)⟩
              have ga := getD_of hza
              have gb := getD_of hzb
              have hza2 := (PS.out.bd za (List.mem_of_getElem? hza)).1
              have hzb2 := (PS.out.bd zb (List.mem_of_getElem? hzb)).1
              have c0 := hcl xa za hza
              have c1 := hcl ya zb hzb
              have f0 := hfz xa
              have f1 := hfz ya
              have hxy : xa ≠ ya := by omega
              obtain ⟨x0, x1, x2, _, _, _⟩ := LB.out.three
              obtain ⟨p0, p1, _, _⟩ := S3.out.box.two
              clear hfz hcl
              cases t
              · have P1 := half_no (k := e) (a := xa) (b := ya) PS.out (fun hl => (HOFF.out rfl _ _ hl).elim)
                have P2 := half_no (k := e) (a := ya) (b := xa) P1 (fun hl => (HOFF.out rfl _ _ hl).elim)
                have P3 := Lib.hid (HNX.out _ P2)
                clear P1 P2 hza hzb ga gb hza2 hzb2
                go_wp2
                go_roundw
                case rel => exact ⟨e + 1, out, by omega, by go_num, S3.out, P3.out⟩
                case measure => simp [intOf]; omega
              · by_cases ha : -2 < za
                · by_cases hz : zb = -2
                  · subst hz
                    have P1 := half_yes (k := e) (a := xa) (b := ya) PS.out (HLN.out rfl).1 (by rw [ga]; exact ha) gb hya (by omega)
                    have P2 := half_no (k := e) (a := ya) (b := xa) P1 (fun _ _ => by rw [getD_setI (by omega), if_neg hxy, ga]; omega)
                    have P3 := Lib.hid (HNX.out _ P2)
                    have S4 := Lib.hid (S3.out.put ya (e : Int))
                    have LB4 := Lib.hid (LB.out.far (p := ⟨g, ya, none⟩) (show X ≠ g by omega) (.int .i64 (e : Int)))
                    have e2 := (World.cell?_setCell_other W2 ⟨g, ya, none⟩ ⟨b', off' + e, none⟩ (.int .i64 (e : Int)) (fun h => by injection h with h; omega)).trans e1
                    have haz : (za == -2) = false := by rw [beq_eq_false_iff_ne]; omega
                    have he2 : -2 < (e : Int) := by omega
                    have HZA := Lib.hid hza
                    clear P1 P2 hza hzb ga gb
                    go_upto_region 17 with fail
                    clear p0 p1 x0 x1 x2 e1 c0 c1 f0 f1
                    generalize W2.setCell ⟨g, ya, none⟩ (.int .i64 (e : Int)) = W3 at *
                    obtain ⟨_, _, hol4, _, hcl, _⟩ := S4.out.own.at1
                    have c0 := hcl xa za (by rw [List.getElem?_set_ne (fun h => hxy h.symm)]; exact HZA.out)
                    have c1 := hcl ya (e : Int) (List.getElem?_set_self (by omega))
                    obtain ⟨x0, x1, x2, _, _, _⟩ := LB4.out.three
                    obtain ⟨p0, p1, _, _⟩ := S4.out.box.two
                    clear hcl
                    go_wp2
                    go_roundw
                    case rel => exact ⟨e + 1, out.set ya (e : Int), by omega, by go_num, S4.out, P3.out⟩
                    case measure => simp [intOf]; omega
                  · have P1 := half_no (k := e) (a := xa) (b := ya) PS.out (fun _ _ => by rw [gb]; exact hz)
                    have P2 := half_no (k := e) (a := ya) (b := xa) P1 (fun _ _ => by rw [ga]; omega)
                    have P3 := Lib.hid (HNX.out _ P2)
                    have hbz : (zb == -2) = false := by rw [beq_eq_false_iff_ne]; exact hz
                    have haz : (za == -2) = false := by rw [beq_eq_false_iff_ne]; omega
                    have hb3 : -2 < zb := by omega
                    clear P1 P2 hza hzb ga gb
                    go_wp2
                    go_roundw
                    case rel => exact ⟨e + 1, out, by omega, by go_num, S3.out, P3.out⟩
                    case measure => simp [intOf]; omega
                · obtain rfl : za = -2 := by omega
                  have P1 := half_no (k := e) (a := xa) (b := ya) PS.out (fun _ h => by rw [ga] at h; omega)
                  by_cases hz : -2 < zb
                  · have P2 := half_yes (k := e) (a := ya) (b := xa) P1 (HLN.out rfl).2 (by rw [gb]; exact hz) ga hxa (by omega)
                    have P3 := Lib.hid (HNX.out _ P2)
                    have S4 := Lib.hid (S3.out.put xa (e : Int))
                    clear P1 P2 hza hzb ga gb
                    go_wp2
                    go_roundw
                    case rel => exact ⟨e + 1, out.set xa (e : Int), by omega, by go_num, S4.out, P3.out⟩
                    case measure => simp [intOf]; omega
                  · have P2 := half_no (k := e) (a := ya) (b := xa) P1 (fun _ h => by rw [gb] at h; exact absurd h hz)
                    have P3 := Lib.hid (HNX.out _ P2)
                    clear P1 P2 hza hzb ga gb
                    go_wp2
                    go_roundw
                    case rel => exact ⟨e + 1, out, by omega, by go_num, S3.out, P3.out⟩
                    case measure => simp [intOf]; omega
            · obtain rfl : e = m := by omega
              have RN := Lib.hid (RD.out.next PS.out (by have := HTL.out; omega))
              go_wp2
              go_roundw
              case rel => exact ⟨j + 1, out, by omega, by go_num, S2.out, RN.out⟩
              case measure => simp [intOf]; omega
        · obtain rfl : j = k := by omega
          have HE := Lib.hid (round_end HV.out (by simp) HA.out HO.out RD.out)
          go_wp2
          go_ret
          exact ⟨g, cap, rfl, by rw [← HE.out]; exact OwnI.more S1.out.own (by omega), S1.out.bel⟩
end Go.Proofs.YtpmkeagdoehbhaaDoor
