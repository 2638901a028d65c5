/- The drawings of FnDropAt, FnWorstBus, FnDropsWithin and FnRoomAt. -/
import Derived.Test.YtpmkeagdoehbhaaDoorBZB
import Derived.Test.YtpmkeagdoehbhaaDoorH8
namespace Go.Proofs.YtpmkeagdoehbhaaDoor
open Go.ChangeShapes Go.WideShapes Go.ChangeAt Go.RowKit

theorem row_farJ {w w' : World} {base : Nat} {v : Value} {zs : List Int} {R : Nat} (h : OwnI 3 w base v zs) (hg : w.grownBy w' (some R)) (hR : R < base) : OwnI 3 w' base v zs := row_far h hg hR
theorem intInfoX : (Tryd.prog.info? 3).map (fun i => (i.zero, i.size, i.bytes)) = some (some (.int .i64 0), 1, 8) := by kernel_rfl

set_option maxRecDepth 100000 in
set_option maxHeartbeats 2000000 in
theorem ohmsDraw_any (R : Nat) (bs : Int) (A : Option Addr) (n c : Nat) (nn lim : Int) (hlim : lim ≤ 900000) (hnn : nn ≤ 1000) (w : World) (hR : R < w.heap.size) (hr : Rd w R lim) (hn : n ≤ 12) :
    Calls Tryd.prog 27 #[.pointer (some ⟨R, 0, none⟩), .agg #[.int .i64 bs, .slice A n c], .int .i64 nn] w fun e w' => ∃ v zs, e = .returned v ∧ OwnI 3 w' w.heap.size v zs ∧ zs.length ≤ 13 ∧ Rd w' R (lim + 20) ∧ w.grownBy w' (some R) := by
  obtain ⟨i0, hi, hz0, hz1, hz2⟩ := info_parts intInfoX
  have HI0 := Lib.hid hi
  have HO := Lib.hid (World.ownsRow_lit (base := w.heap.size + 1) (size := 1) (e := 3) (w.alloc (.cells #[.int .i64 bs, .slice A n c] 25)) #[] 0 (by simp) (by decide) rfl)
  have HBX := Lib.hid ((IsBlk.new w 25 #[.int .i64 bs, .slice A n c]).alloc (.cells #[] 3))
  have HR1 := Lib.hid ((hr.alloc (.cells #[.int .i64 bs, .slice A n c] 25)).alloc (.cells #[] 3))
  have HGW := Lib.hid (show w.grownBy ((w.alloc (.cells #[.int .i64 bs, .slice A n c] 25)).alloc (.cells #[] 3)) (some R) from grown_then (grown_alloc _ _ _) (grown_alloc _ _ _))
  clear hi hr
  go_enter Tryd.func27, Tryd.ntmps27
  go_upto_region 2 with fail
  simp only [World.size_alloc] at HO ⊢
  generalize (w.alloc (.cells #[.int .i64 bs, .slice A n c] 25)).alloc (.cells #[] 3) = W0 at *
  go_wp2
  go_loopw [7, 8] (fun v i wr => ∃ (k : Nat) (zs : List Int), k ≤ n ∧ i = .int .i64 k ∧ wr.ownsRow (w.heap.size + 1) 3 1 v k (zs.map (Value.int .i64)) ∧ zs.length = k ∧ Rd wr R (lim + k) ∧ w.grownBy wr (some R) ∧ IsBlk wr w.heap.size 25 #[.int .i64 bs, .slice A n c]) (fun _ i _ => n - (intOf i).toNat)
  case atStart => exact ⟨0, [], by omega, rfl, by simpa using HO.out, rfl, HR1.out.mono (by omega), HGW.out, HBX.out⟩
  case round =>
    obtain ⟨k, zs, hk, rfl, hown, hl, hrd, hgr, hbx⟩ := hrel
    have KO := Lib.hid hown
    have KB := Lib.hid hbx
    have KR := Lib.hid hrd
    have KG := Lib.hid hgr
    have KL := Lib.hid hl
    obtain ⟨p0, p1, p2, p3⟩ := KB.out.two
    clear hown hbx hrd hgr hl
    by_cases hlt : k < n
    · go_wp2_with fail
      refine (pick_any R 10 _ (by omega) (by omega) _ KR.out).mono ?_
      rintro e w2 ⟨v2, rfl, hu0, hu1, _, hr2, hg2⟩
      have KO2 := Lib.hid (row_far KO.out hg2 (by omega))
      have KB2 := Lib.hid (show IsBlk w2 w.heap.size 25 _ from (hg2.block _ KB.out.lt (by simp; omega)).trans KB.out)
      have KR2 := Lib.hid hr2
      have KG2 := Lib.hid (grown_then KG.out hg2)
      have hsz2 : w.heap.size < w2.heap.size := KB2.out.lt
      clear hr2 hg2
      go_wp2_with (
        at_builtin
        refine wpList_append_own _ rfl _ _ _ rfl (w.heap.size + 1) 3 i0 (.int .i64 0) 1 8 Tryd.underlying28 HI0.out hz0 hz1 hz2 rfl (by decide) _ _ _ rfl (World.ownsRow.alloc KO2.out _) ⟨w2.heap.size, 0, none⟩ 1 1 [.int .i64 v2] rfl rfl ?c1 ?c2 ?c3 ?c4 ?c5 ?_
        case c1 => exact cell_one_new _ _ _
        case c2 => intro u hu; simp at hu; subst hu; rfl
        case c3 => simp only [maxLen]; omega
        case c4 => omega
        case c5 => simp; omega
        intro v' w3 hown' hgrow _
        have KR3 := Lib.hid ((KR2.out.alloc _).grown hgrow (fun q hq => by have := (World.ownsRow.lt KO2.out q hq).1; omega))
        have KB3 := Lib.hid (show IsBlk w3 w.heap.size 25 _ from (hgrow.block _ (by simp; omega) (fun e => by have := (World.ownsRow.lt KO2.out _ e.symm).1; omega)).trans (KB2.out.alloc _))
        have KG3 := Lib.hid (show w.grownBy w3 (some R) from ⟨hgrow.os.trans KG2.out.os, hgrow.tape.trans KG2.out.tape, hgrow.output.trans KG2.out.output, Nat.le_trans KG2.out.size (by have := hgrow.size; simp at this; omega), fun q hq hne => (hgrow.block q (by have := KG2.out.size; simp; omega) (fun e => by have := (World.ownsRow.lt KO2.out q e.symm).1; omega)).trans ((Below.heap_alloc w2 _ q (by have := KG2.out.size; omega)).trans (KG2.out.block q hq hne))⟩))
      go_roundw
      case rel => exact ⟨k + 1, zs ++ [v2], by omega, by go_num, by rw [List.map_append]; exact hown', by rw [List.length_append, KL.out]; rfl, KR3.out.mono (by omega), KG3.out, KB3.out⟩
      case measure => simp [intOf]; omega
    · obtain rfl : k = n := by omega
      go_wp2_with fail
      refine (odd_any R nn _ (by omega) (by omega) _ KR.out).mono ?_
      rintro e w2 ⟨vo, rfl, _, hr2, hg2⟩
      have KO2 := Lib.hid (show OwnI 3 w2 (w.heap.size + 1) _ zs from by
        have h := row_far KO.out hg2 (by omega)
        unfold OwnI
        rw [KL.out]
        exact h)
      have KR2 := Lib.hid hr2
      have KG2 := Lib.hid (grown_then KG.out hg2)
      have hsz2 : w.heap.size < w2.heap.size := Nat.lt_of_lt_of_le KB.out.lt hg2.size
      obtain ⟨Av, cv, ev, _⟩ := KO2.out.sl
      rw [KL.out] at ev
      subst ev
      clear hr2 hg2
      cases vo
      · go_wp2
        go_ret
        exact ⟨_, zs, rfl, OwnI.more KO2.out (by omega), by rw [KL.out]; omega, KR2.out.mono (by omega), KG2.out⟩
      · by_cases hk0 : 0 < k
        · go_wp2_with fail
          refine (pick_any R 2 _ (by omega) (by omega) _ KR2.out).mono ?_
          rintro e w3 ⟨v3, rfl, _, _, _, hr3, hg3⟩
          have KO3 := Lib.hid (row_farJ KO2.out hg3 (by omega))
          have KR3 := Lib.hid hr3
          have KG3 := Lib.hid (grown_then KG2.out hg3)
          have hsz3 : w.heap.size < w3.heap.size := Nat.lt_of_lt_of_le hsz2 hg3.size
          clear hr3 hg3
          by_cases hv3 : v3 = 0
          · subst hv3
            have hR4 := KR3.out.alloc (.cells #[.int .i64 (-1), .int .i64 10] 3)
            go_wp2_with fail
            refine (pick_any R 2 _ (by omega) (by omega) _ hR4).mono ?_
            rintro e w4 ⟨v4, rfl, hq0, hq1, _, hr4, hg4⟩
            have KO4 := Lib.hid (row_farJ (KO3.out.alloc (.cells #[.int .i64 (-1), .int .i64 10] 3)) hg4 (by omega))
            have KR4 := Lib.hid hr4
            have KG4 := Lib.hid (grown_then (grown_then KG3.out (grown_alloc w3 (.cells #[.int .i64 (-1), .int .i64 10] 3) (some R))) hg4)
            have KL4 := Lib.hid ((IsBlk.new w3 3 #[.int .i64 (-1), .int .i64 10]).farG hg4 (fun e => by injection e with e; omega))
            obtain ⟨g, cg, eg⟩ := own_some KO4.out (by rw [KL.out]; exact hk0)
            injection eg with eg1 eg2 eg3
            subst eg1 eg3
            clear eg2
            obtain ⟨g0, g1, _, gf, gc, gp⟩ := KO4.out.at1
            have hz0' : zs[0]? = some (zs[0]'(by rw [KL.out]; exact hk0)) := List.getElem?_eq_getElem _
            have c0 := gc 0 _ hz0'
            generalize (zs[0]'(by rw [KL.out]; exact hk0)) = z0 at c0 hz0'
            have f0 := gf 0
            have hv4 : v4 = 0 ∨ v4 = 1 := by have := hq1 (by decide); omega
            obtain ⟨l0, l1, _, _⟩ := KL4.out.two
            have HG0 := Lib.hid g0
            have HG1 := Lib.hid g1
            have KP := Lib.hid gp
            clear hr4 hg4 gc gf gp hz0' hR4 g0 g1 hq0 hq1
            rcases hv4 with rfl | rfl
            all_goals
              go_wp2
              go_ret
            · exact ⟨_, zs.set 0 (-1), rfl, OwnI.more (KP.out 0 (-1)) (by omega), by rw [List.length_set, KL.out]; omega, (KR4.out.grown (grown_put w4 g 0 (.int .i64 (-1))) (fun q e => by injection e with e; have := HG0.out; omega)).mono (by omega), grown_new KG4.out (grown_put w4 g 0 (.int .i64 (-1))) (by have := HG0.out; omega)⟩
            · exact ⟨_, zs.set 0 10, rfl, OwnI.more (KP.out 0 10) (by omega), by rw [List.length_set, KL.out]; omega, (KR4.out.grown (grown_put w4 g 0 (.int .i64 10)) (fun q e => by injection e with e; have := HG0.out; omega)).mono (by omega), grown_new KG4.out (grown_put w4 g 0 (.int .i64 10)) (by have := HG0.out; omega)⟩
          · have hv3b : (v3 == 0) = false := by simpa using hv3
            have HOWN := Lib.hid (show w3.ownsRow (w.heap.size + 1) 3 1 (.slice Av k cv) k (zs.map (Value.int .i64)) by
              have h := KO3.out
              unfold OwnI at h
              rw [KL.out] at h
              exact h)
            clear hv3
            go_wp2_with (
              at_builtin
              refine wpList_append_own _ rfl _ _ _ rfl (w.heap.size + 1) 3 i0 (.int .i64 0) 1 8 Tryd.underlying28 HI0.out hz0 hz1 hz2 rfl (by decide) _ _ _ rfl (World.ownsRow.alloc HOWN.out _) ⟨w3.heap.size, 0, none⟩ 1 1 [.int .i64 1] rfl rfl ?c1 ?c2 ?c3 ?c4 ?c5 ?_
              case c1 => exact cell_one_new _ _ _
              case c2 => intro u hu; simp at hu; subst hu; rfl
              case c3 => simp only [maxLen]; omega
              case c4 => omega
              case c5 => simp; omega
              intro v' w5 hown' hgrow _
              have KR5 := Lib.hid ((KR3.out.alloc _).grown hgrow (fun q hq => by have := (World.ownsRow.lt HOWN.out q hq).1; omega))
              have KG5 := Lib.hid (show w.grownBy w5 (some R) from ⟨hgrow.os.trans KG3.out.os, hgrow.tape.trans KG3.out.tape, hgrow.output.trans KG3.out.output, Nat.le_trans KG3.out.size (by have := hgrow.size; simp at this; omega), fun q hq hne => (hgrow.block q (by have := KG3.out.size; simp; omega) (fun e => by have := (World.ownsRow.lt HOWN.out q e.symm).1; omega)).trans ((Below.heap_alloc w3 _ q (by have := KG3.out.size; omega)).trans (KG3.out.block q hq hne))⟩))
            go_ret
            exact ⟨_, zs ++ [1], rfl, OwnI.more (base := w.heap.size + 1) (by unfold OwnI; rw [List.length_append, KL.out, List.map_append]; exact hown') (by omega), by rw [List.length_append, KL.out]; simp; omega, KR5.out.mono (by omega), KG5.out⟩
        · have hkz : k = 0 := by omega
          have HOWN := Lib.hid (show w2.ownsRow (w.heap.size + 1) 3 1 (.slice Av k cv) k (zs.map (Value.int .i64)) by
            have h := KO2.out
            unfold OwnI at h
            rw [KL.out] at h
            exact h)
          subst hkz
          go_wp2_with (
            at_builtin
            refine wpList_append_own _ rfl _ _ _ rfl (w.heap.size + 1) 3 i0 (.int .i64 0) 1 8 Tryd.underlying28 HI0.out hz0 hz1 hz2 rfl (by decide) _ _ _ rfl (World.ownsRow.alloc HOWN.out _) ⟨w2.heap.size, 0, none⟩ 1 1 [.int .i64 1] rfl rfl ?c1 ?c2 ?c3 ?c4 ?c5 ?_
            case c1 => exact cell_one_new _ _ _
            case c2 => intro u hu; simp at hu; subst hu; rfl
            case c3 => simp only [maxLen]; omega
            case c4 => omega
            case c5 => simp; omega
            intro v' w5 hown' hgrow _
            have KR5 := Lib.hid ((KR2.out.alloc _).grown hgrow (fun q hq => by have := (World.ownsRow.lt HOWN.out q hq).1; omega))
            have KG5 := Lib.hid (show w.grownBy w5 (some R) from ⟨hgrow.os.trans KG2.out.os, hgrow.tape.trans KG2.out.tape, hgrow.output.trans KG2.out.output, Nat.le_trans KG2.out.size (by have := hgrow.size; simp at this; omega), fun q hq hne => (hgrow.block q (by have := KG2.out.size; simp; omega) (fun e => by have := (World.ownsRow.lt HOWN.out q e.symm).1; omega)).trans ((Below.heap_alloc w2 _ q (by have := KG2.out.size; omega)).trans (KG2.out.block q hq hne))⟩))
          go_ret
          exact ⟨_, zs ++ [1], rfl, OwnI.more (base := w.heap.size + 1) (by unfold OwnI; rw [List.length_append, KL.out, List.map_append]; exact hown') (by omega), by rw [List.length_append, KL.out]; simp, KR5.out.mono (by omega), KG5.out⟩

/-- Rows that were drawn, with resistances. -/
def RowsO (w w' : World) (bs : Int) (A : Option Addr) (ls : List L3) (B : Option Addr) (ts : List Bool) (U : Option Addr) (us : List TU) (O : Option Addr) (zs : List Int) : Prop := RowL w' A ls.length ls ∧ ls.length ≤ 12 ∧ -1 ≤ bs ∧ bs ≤ 9 ∧ RowT w' B ts.length ts ∧ ts.length ≤ 13 ∧ RowU w' U us.length us ∧ us.length ≤ 10 ∧ RowZ w' O zs.length zs ∧ zs.length ≤ 13 ∧ Below w.heap.size w w'
theorem OwnI.far1 {w : World} {base q : Nat} {v : Value} {zs : List Int} (h : OwnI 3 w base v zs) (hq : q < base) (u u' : Value) : OwnI 3 ((w.setCell ⟨q, 0, none⟩ u).setCell ⟨q, 1, none⟩ u') base v zs :=
  h.far (grown_then (grown_put _ _ _ _) (grown_put _ _ _ _)) (fun p hp e => by injection e with e; have := (h.lt p hp).1; omega)
def DrawnWorstBus (w : World) (e : Ending) (w' : World) : Prop := ∃ bs A c ls B d ts U r us O s zs, e = .returned (.tuple #[.agg #[.int .i64 bs, .slice A ls.length c], .slice B ts.length d, .slice U us.length r, .slice O zs.length s]) ∧ RowsO w w' bs A ls B ts U us O zs

set_option maxRecDepth 100000 in
set_option maxHeartbeats 4000000 in
theorem drawWorstBus_any (A : Option Addr) (n c : Nat) (code : List Int) (w : World) (hr : RowB w A n code) (hnc : n ≤ c) (hc : c ≤ 9223372036854775807) :
    Calls Tryd.prog 14 #[.slice A n c] w (DrawnWorstBus w) := by
  go_enter Tryd.func14, Tryd.ntmps14
  go_wp2_with fail
  refine (open_any A n c code _ (hr.alloc _) hnc hc).mono ?_
  rintro e w1 ⟨rfl, hb1, hr1, hs1⟩
  simp only [World.size_alloc] at hb1 hr1 hs1
  have HS := Lib.hid hs1
  clear hs1
  go_wp2_with fail
  refine (radialDraw_any (w.heap.size + 1) 9 0 (by decide) (by decide) _ (by rw [HS.out]; omega) hr1).mono ?_
  rintro e w2 ⟨bs, A', c', ls, As, cs, ts, Au, cu, us, ⟨rfl, ho, hl, hb0, hb9, hO, hts, hU, hus⟩, hr2, hg2⟩
  have S1 := Lib.hid (draw_startS (bs := bs) hb1 rfl HS.out ho hr2 hg2)
  have O1 := Lib.hid (show OwnT (w2.alloc (.cells #[.int .i64 bs, .slice A' ls.length c'] 25)) (w.heap.size + 1 + 1) (.slice As ts.length cs) ts from (hO.more (by rw [HS.out]; omega)).keep (below_bx _ _))
  have U1 := Lib.hid (show RowUB (w2.alloc (.cells #[.int .i64 bs, .slice A' ls.length c'] 25)) (w.heap.size + 1 + 1) Au us.length us from (hU.more (by rw [HS.out]; omega)).keep (below_bx _ _))
  clear hr2 hg2 ho hO hU hr hr1 hb1
  generalize hR : w.heap.size + 1 = R at *
  have HRR := Lib.hid hR
  clear hR
  have hX1 : ¬ w.heap.size = w2.heap.size := by have := S1.out.hR; have := S1.out.hX; omega
  have hRw := S1.out.hR
  go_upto_region 3 with fail
  generalize w2.heap.size = X at *
  generalize hw3 : w2.alloc (.cells #[.int .i64 bs, .slice A' ls.length c'] 25) = w3 at *
  obtain ⟨p0, p1, p2, p3⟩ := S1.out.var.two
  obtain ⟨q0, q1, q2, q3⟩ := S1.out.ret.two
  have D1 := Lib.hid S1.out.drew
  have DO := Lib.hid (show OwnT w3.drew (R + 1) (.slice As ts.length cs) ts from O1.out)
  have DU := Lib.hid (show RowUB w3.drew (R + 1) Au us.length us from U1.out)
  have HLm := Lib.hid hl
  have hlt := Lib.hid (Nat.lt_succ_self R)
  clear hw3 S1 O1 U1 HS
  go_region_with (first
    | (go_at_call 27; refine (ohmsDraw_any R bs A' ls.length c' 9 _ (by decide) (by decide) _ D1.out.rd.lt D1.out.rd HLm.out).mono ?_; rintro e w4 ⟨va, zs, rfl, hZ, hzl, hr4, hg4⟩; obtain ⟨Az, cz, rfl, _⟩ := hZ.sl; have T1 := Lib.hid (D1.out.pick hr4 hg4); have O4 := Lib.hid (DO.out.pick hg4 hlt.out); have U4 := Lib.hid (DU.out.pick hg4 hlt.out); have Z4 := Lib.hid (OwnI.more hZ (base' := R + 1) (by have := D1.out.hX; have := D1.out.var.lt; omega)); have HZL := Lib.hid hzl; clear hZ hzl; obtain ⟨p0, p1, p2, p3⟩ := T1.out.var.two; obtain ⟨q0, q1, q2, q3⟩ := T1.out.ret.two))
  all_goals go_wp2_with fail
  all_goals
    have T4 := T1.out.done (.int .i64 bs)
    refine bodyPost_ret (v := .tuple #[.agg #[.int .i64 bs, .slice A' ls.length c'], .slice As ts.length cs, .slice Au us.length cu, .slice Az zs.length cz]) (by simp [results, Tryd.results14, go_sem, q0, q1]) rfl ⟨bs, A', c', ls, As, cs, ts, Au, cu, us, Az, cz, zs, rfl, ⟨T4.1, hl, hb0, hb9, (O4.out.far1 (by omega) _ _).rowT, hts, (U4.out.far1 (by omega) _ _).1, hus, OwnI.rowZ (Z4.out.far1 (by omega) _ _), HZL.out, T4.2⟩⟩
def DrawnDropAt (w : World) (e : Ending) (w' : World) : Prop := ∃ bs A c ls B d ts U r us O s zs bus, e = .returned (.tuple #[.agg #[.int .i64 bs, .slice A ls.length c], .slice B ts.length d, .slice U us.length r, .slice O zs.length s, .int .i64 bus]) ∧ RowsO w w' bs A ls B ts U us O zs

set_option maxRecDepth 100000 in
set_option maxHeartbeats 4000000 in
theorem drawDropAt_any (A : Option Addr) (n c : Nat) (code : List Int) (w : World) (hr : RowB w A n code) (hnc : n ≤ c) (hc : c ≤ 9223372036854775807) :
    Calls Tryd.prog 7 #[.slice A n c] w (DrawnDropAt w) := by
  go_enter Tryd.func7, Tryd.ntmps7
  go_wp2_with fail
  refine (open_any A n c code _ (hr.alloc _) hnc hc).mono ?_
  rintro e w1 ⟨rfl, hb1, hr1, hs1⟩
  simp only [World.size_alloc] at hb1 hr1 hs1
  have HS := Lib.hid hs1
  clear hs1
  go_wp2_with fail
  refine (radialBus_any (w.heap.size + 1) 0 (by decide) _ (by rw [HS.out]; omega) hr1).mono ?_
  rintro e w2 ⟨bs, A', c', ls, As, cs, ts, Au, cu, us, bus, ⟨rfl, ho, hl, hb0, hb9, hO, hts, hU, hus⟩, hr2, hg2⟩
  have S1 := Lib.hid (draw_startS (bs := bs) hb1 rfl HS.out ho hr2 hg2)
  have O1 := Lib.hid (show OwnT (w2.alloc (.cells #[.int .i64 bs, .slice A' ls.length c'] 25)) (w.heap.size + 1 + 1) (.slice As ts.length cs) ts from (hO.more (by rw [HS.out]; omega)).keep (below_bx _ _))
  have U1 := Lib.hid (show RowUB (w2.alloc (.cells #[.int .i64 bs, .slice A' ls.length c'] 25)) (w.heap.size + 1 + 1) Au us.length us from (hU.more (by rw [HS.out]; omega)).keep (below_bx _ _))
  clear hr2 hg2 ho hO hU hr hr1 hb1
  generalize hR : w.heap.size + 1 = R at *
  have HRR := Lib.hid hR
  clear hR
  have hX1 : ¬ w.heap.size = w2.heap.size := by have := S1.out.hR; have := S1.out.hX; omega
  have hRw := S1.out.hR
  go_upto_region 3 with fail
  generalize w2.heap.size = X at *
  generalize hw3 : w2.alloc (.cells #[.int .i64 bs, .slice A' ls.length c'] 25) = w3 at *
  obtain ⟨p0, p1, p2, p3⟩ := S1.out.var.two
  obtain ⟨q0, q1, q2, q3⟩ := S1.out.ret.two
  have D1 := Lib.hid S1.out.drew
  have DO := Lib.hid (show OwnT w3.drew (R + 1) (.slice As ts.length cs) ts from O1.out)
  have DU := Lib.hid (show RowUB w3.drew (R + 1) Au us.length us from U1.out)
  have HLm := Lib.hid hl
  have hlt := Lib.hid (Nat.lt_succ_self R)
  clear hw3 S1 O1 U1 HS
  go_region_with (first
    | (go_at_call 27; refine (ohmsDraw_any R bs A' ls.length c' 9 _ (by decide) (by decide) _ D1.out.rd.lt D1.out.rd HLm.out).mono ?_; rintro e w4 ⟨va, zs, rfl, hZ, hzl, hr4, hg4⟩; obtain ⟨Az, cz, rfl, _⟩ := hZ.sl; have T1 := Lib.hid (D1.out.pick hr4 hg4); have O4 := Lib.hid (DO.out.pick hg4 hlt.out); have U4 := Lib.hid (DU.out.pick hg4 hlt.out); have Z4 := Lib.hid (OwnI.more hZ (base' := R + 1) (by have := D1.out.hX; have := D1.out.var.lt; omega)); have HZL := Lib.hid hzl; clear hZ hzl; obtain ⟨p0, p1, p2, p3⟩ := T1.out.var.two; obtain ⟨q0, q1, q2, q3⟩ := T1.out.ret.two))
  all_goals go_wp2_with fail
  all_goals
    have T4 := T1.out.done (.int .i64 bs)
    refine bodyPost_ret (v := .tuple #[.agg #[.int .i64 bs, .slice A' ls.length c'], .slice As ts.length cs, .slice Au us.length cu, .slice Az zs.length cz, .int .i64 bus]) (by simp [results, Tryd.results7, go_sem, q0, q1]) rfl ⟨bs, A', c', ls, As, cs, ts, Au, cu, us, Az, cz, zs, _, rfl, ⟨T4.1, hl, hb0, hb9, (O4.out.far1 (by omega) _ _).rowT, hts, (U4.out.far1 (by omega) _ _).1, hus, OwnI.rowZ (Z4.out.far1 (by omega) _ _), HZL.out, T4.2⟩⟩
def DrawnDropsWithin (w : World) (e : Ending) (w' : World) : Prop := ∃ bs A c ls B d ts U r us O s zs most, e = .returned (.tuple #[.agg #[.int .i64 bs, .slice A ls.length c], .slice B ts.length d, .slice U us.length r, .slice O zs.length s, .int .i64 most]) ∧ RowsO w w' bs A ls B ts U us O zs ∧ 0 ≤ most ∧ most ≤ 900

set_option maxRecDepth 100000 in
set_option maxHeartbeats 4000000 in
theorem drawDropsWithin_any (A : Option Addr) (n c : Nat) (code : List Int) (w : World) (hr : RowB w A n code) (hnc : n ≤ c) (hc : c ≤ 9223372036854775807) :
    Calls Tryd.prog 17 #[.slice A n c] w (DrawnDropsWithin w) := by
  go_enter Tryd.func17, Tryd.ntmps17
  go_wp2_with fail
  refine (open_any A n c code _ (hr.alloc _) hnc hc).mono ?_
  rintro e w1 ⟨rfl, hb1, hr1, hs1⟩
  simp only [World.size_alloc] at hb1 hr1 hs1
  have HS := Lib.hid hs1
  clear hs1
  go_wp2_with fail
  refine (radialDraw_any (w.heap.size + 1) 9 0 (by decide) (by decide) _ (by rw [HS.out]; omega) hr1).mono ?_
  rintro e w2 ⟨bs, A', c', ls, As, cs, ts, Au, cu, us, ⟨rfl, ho, hl, hb0, hb9, hO, hts, hU, hus⟩, hr2, hg2⟩
  have S1 := Lib.hid (draw_startS (bs := bs) hb1 rfl HS.out ho hr2 hg2)
  have O1 := Lib.hid (show OwnT (w2.alloc (.cells #[.int .i64 bs, .slice A' ls.length c'] 25)) (w.heap.size + 1 + 1) (.slice As ts.length cs) ts from (hO.more (by rw [HS.out]; omega)).keep (below_bx _ _))
  have U1 := Lib.hid (show RowUB (w2.alloc (.cells #[.int .i64 bs, .slice A' ls.length c'] 25)) (w.heap.size + 1 + 1) Au us.length us from (hU.more (by rw [HS.out]; omega)).keep (below_bx _ _))
  clear hr2 hg2 ho hO hU hr hr1 hb1
  generalize hR : w.heap.size + 1 = R at *
  have HRR := Lib.hid hR
  clear hR
  have hX1 : ¬ w.heap.size = w2.heap.size := by have := S1.out.hR; have := S1.out.hX; omega
  have hRw := S1.out.hR
  go_upto_region 3 with fail
  generalize w2.heap.size = X at *
  generalize hw3 : w2.alloc (.cells #[.int .i64 bs, .slice A' ls.length c'] 25) = w3 at *
  obtain ⟨p0, p1, p2, p3⟩ := S1.out.var.two
  obtain ⟨q0, q1, q2, q3⟩ := S1.out.ret.two
  have D1 := Lib.hid S1.out.drew
  have DO := Lib.hid (show OwnT w3.drew (R + 1) (.slice As ts.length cs) ts from O1.out)
  have DU := Lib.hid (show RowUB w3.drew (R + 1) Au us.length us from U1.out)
  have HLm := Lib.hid hl
  have hlt := Lib.hid (Nat.lt_succ_self R)
  clear hw3 S1 O1 U1 HS
  go_region_with (first
    | (go_at_call 38; refine (pick_any R 90 _ (by decide) (by decide) _ T1.out.rd).mono ?_; rintro e w5 ⟨vb, rfl, hd0, hd1, _, hr5, hg5⟩; have T2 := Lib.hid (T1.out.pick hr5 hg5); have O5 := Lib.hid (O4.out.pick hg5 hlt.out); have U5 := Lib.hid (U4.out.pick hg5 hlt.out); have Z5 := Lib.hid (row_farJ Z4.out hg5 hlt.out); obtain ⟨p0, p1, p2, p3⟩ := T2.out.var.two; obtain ⟨q0, q1, q2, q3⟩ := T2.out.ret.two)
    | (go_at_call 27; refine (ohmsDraw_any R bs A' ls.length c' 9 _ (by decide) (by decide) _ D1.out.rd.lt D1.out.rd HLm.out).mono ?_; rintro e w4 ⟨va, zs, rfl, hZ, hzl, hr4, hg4⟩; obtain ⟨Az, cz, rfl, _⟩ := hZ.sl; have T1 := Lib.hid (D1.out.pick hr4 hg4); have O4 := Lib.hid (DO.out.pick hg4 hlt.out); have U4 := Lib.hid (DU.out.pick hg4 hlt.out); have Z4 := Lib.hid (OwnI.more hZ (base' := R + 1) (by have := D1.out.hX; have := D1.out.var.lt; omega)); have HZL := Lib.hid hzl; clear hZ hzl; obtain ⟨p0, p1, p2, p3⟩ := T1.out.var.two; obtain ⟨q0, q1, q2, q3⟩ := T1.out.ret.two))
  all_goals go_wp2_with fail
  all_goals
    have T4 := T2.out.done (.int .i64 bs)
    refine bodyPost_ret (v := .tuple #[.agg #[.int .i64 bs, .slice A' ls.length c'], .slice As ts.length cs, .slice Au us.length cu, .slice Az zs.length cz, .int .i64 (IntKind.i64.wrap (10 * vb))]) (by simp [results, Tryd.results17, go_sem, q0, q1]) rfl ⟨bs, A', c', ls, As, cs, ts, Au, cu, us, Az, cz, zs, _, rfl, ⟨T4.1, hl, hb0, hb9, (O5.out.far1 (by omega) _ _).rowT, hts, (U5.out.far1 (by omega) _ _).1, hus, OwnI.rowZ (Z5.out.far1 (by omega) _ _), HZL.out, T4.2⟩, by rw [IntWalk.i64_in _ (by have := hd1 (by decide); omega)]; omega, by rw [IntWalk.i64_in _ (by have := hd1 (by decide); omega)]; have := hd1 (by decide); omega⟩
def DrawnRoomAt (w : World) (e : Ending) (w' : World) : Prop := ∃ bs A c ls B d ts U r us O s zs most bus, e = .returned (.tuple #[.agg #[.int .i64 bs, .slice A ls.length c], .slice B ts.length d, .slice U us.length r, .slice O zs.length s, .int .i64 most, .int .i64 bus]) ∧ RowsO w w' bs A ls B ts U us O zs ∧ 0 ≤ most ∧ most ≤ 1600

set_option maxRecDepth 100000 in
set_option maxHeartbeats 4000000 in
theorem drawRoomAt_any (A : Option Addr) (n c : Nat) (code : List Int) (w : World) (hr : RowB w A n code) (hnc : n ≤ c) (hc : c ≤ 9223372036854775807) :
    Calls Tryd.prog 22 #[.slice A n c] w (DrawnRoomAt w) := by
  go_enter Tryd.func22, Tryd.ntmps22
  go_wp2_with fail
  refine (open_any A n c code _ (hr.alloc _) hnc hc).mono ?_
  rintro e w1 ⟨rfl, hb1, hr1, hs1⟩
  simp only [World.size_alloc] at hb1 hr1 hs1
  have HS := Lib.hid hs1
  clear hs1
  go_wp2_with fail
  refine (radialBus_any (w.heap.size + 1) 0 (by decide) _ (by rw [HS.out]; omega) hr1).mono ?_
  rintro e w2 ⟨bs, A', c', ls, As, cs, ts, Au, cu, us, bus, ⟨rfl, ho, hl, hb0, hb9, hO, hts, hU, hus⟩, hr2, hg2⟩
  have S1 := Lib.hid (draw_startS (bs := bs) hb1 rfl HS.out ho hr2 hg2)
  have O1 := Lib.hid (show OwnT (w2.alloc (.cells #[.int .i64 bs, .slice A' ls.length c'] 25)) (w.heap.size + 1 + 1) (.slice As ts.length cs) ts from (hO.more (by rw [HS.out]; omega)).keep (below_bx _ _))
  have U1 := Lib.hid (show RowUB (w2.alloc (.cells #[.int .i64 bs, .slice A' ls.length c'] 25)) (w.heap.size + 1 + 1) Au us.length us from (hU.more (by rw [HS.out]; omega)).keep (below_bx _ _))
  clear hr2 hg2 ho hO hU hr hr1 hb1
  generalize hR : w.heap.size + 1 = R at *
  have HRR := Lib.hid hR
  clear hR
  have hX1 : ¬ w.heap.size = w2.heap.size := by have := S1.out.hR; have := S1.out.hX; omega
  have hRw := S1.out.hR
  go_upto_region 3 with fail
  generalize w2.heap.size = X at *
  generalize hw3 : w2.alloc (.cells #[.int .i64 bs, .slice A' ls.length c'] 25) = w3 at *
  obtain ⟨p0, p1, p2, p3⟩ := S1.out.var.two
  obtain ⟨q0, q1, q2, q3⟩ := S1.out.ret.two
  have D1 := Lib.hid S1.out.drew
  have DO := Lib.hid (show OwnT w3.drew (R + 1) (.slice As ts.length cs) ts from O1.out)
  have DU := Lib.hid (show RowUB w3.drew (R + 1) Au us.length us from U1.out)
  have HLm := Lib.hid hl
  have hlt := Lib.hid (Nat.lt_succ_self R)
  clear hw3 S1 O1 U1 HS
  go_region_with (first
    | (go_at_call 38; refine (pick_any R 160 _ (by decide) (by decide) _ T1.out.rd).mono ?_; rintro e w5 ⟨vb, rfl, hd0, hd1, _, hr5, hg5⟩; have T2 := Lib.hid (T1.out.pick hr5 hg5); have O5 := Lib.hid (O4.out.pick hg5 hlt.out); have U5 := Lib.hid (U4.out.pick hg5 hlt.out); have Z5 := Lib.hid (row_farJ Z4.out hg5 hlt.out); obtain ⟨p0, p1, p2, p3⟩ := T2.out.var.two; obtain ⟨q0, q1, q2, q3⟩ := T2.out.ret.two)
    | (go_at_call 27; refine (ohmsDraw_any R bs A' ls.length c' 9 _ (by decide) (by decide) _ D1.out.rd.lt D1.out.rd HLm.out).mono ?_; rintro e w4 ⟨va, zs, rfl, hZ, hzl, hr4, hg4⟩; obtain ⟨Az, cz, rfl, _⟩ := hZ.sl; have T1 := Lib.hid (D1.out.pick hr4 hg4); have O4 := Lib.hid (DO.out.pick hg4 hlt.out); have U4 := Lib.hid (DU.out.pick hg4 hlt.out); have Z4 := Lib.hid (OwnI.more hZ (base' := R + 1) (by have := D1.out.hX; have := D1.out.var.lt; omega)); have HZL := Lib.hid hzl; clear hZ hzl; obtain ⟨p0, p1, p2, p3⟩ := T1.out.var.two; obtain ⟨q0, q1, q2, q3⟩ := T1.out.ret.two))
  all_goals go_wp2_with fail
  all_goals
    have T4 := T2.out.done (.int .i64 bs)
    refine bodyPost_ret (v := .tuple #[.agg #[.int .i64 bs, .slice A' ls.length c'], .slice As ts.length cs, .slice Au us.length cu, .slice Az zs.length cz, .int .i64 (IntKind.i64.wrap (10 * vb)), .int .i64 bus]) (by simp [results, Tryd.results22, go_sem, q0, q1]) rfl ⟨bs, A', c', ls, As, cs, ts, Au, cu, us, Az, cz, zs, _, _, rfl, ⟨T4.1, hl, hb0, hb9, (O5.out.far1 (by omega) _ _).rowT, hts, (U5.out.far1 (by omega) _ _).1, hus, OwnI.rowZ (Z5.out.far1 (by omega) _ _), HZL.out, T4.2⟩, by rw [IntWalk.i64_in _ (by have := hd1 (by decide); omega)]; omega, by rw [IntWalk.i64_in _ (by have := hd1 (by decide); omega)]; have := hd1 (by decide); omega⟩
end Go.Proofs.YtpmkeagdoehbhaaDoor
