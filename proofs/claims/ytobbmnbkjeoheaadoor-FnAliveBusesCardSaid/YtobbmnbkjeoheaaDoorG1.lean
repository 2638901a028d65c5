/- The drawing of states, beside a network. -/
import Derived.Test.YtobbmnbkjeoheaaDoorD2
import Derived.Test.YtobbmnbkjeoheaaDoorBase2
import Derived.Maps.AppendAt
import Derived.OwnWalk
import Derived.Deep.RegionWith
import Derived.Deep.CutBlock
namespace Go.Proofs.YtobbmnbkjeoheaaDoor
open Go.ChangeShapes Go.WideShapes Go.ChangeAt Go.RowKit

theorem boolInfoG : (Tryd.prog.info? 4).map (fun i => (i.zero, i.size, i.bytes)) = some (some (.bool false), 1, 1) := by kernel_rfl
theorem row_far {w w' : World} {base e n : Nat} {v : Value} {xs : List Value} {R : Nat} (h : w.ownsRow base e 1 v n xs) (hg : w.grownBy w' (some R)) (hR : R < base) : w'.ownsRow base e 1 v n xs := by
  refine World.ownsRow.kept h hg ?_
  rcases hq : v.ownBlock with _ | q
  · exact .inl rfl
  · exact .inr (fun e => by injection e with e; have := (World.ownsRow.lt h q hq).1; omega)
theorem OwnT.pick {w w' : World} {base : Nat} {v : Value} {ts : List Bool} {R : Nat} (h : OwnT w base v ts) (hg : w.grownBy w' (some R)) (hR : R < base) : OwnT w' base v ts :=
  h.far hg (fun q hq e => by injection e with e; have := (h.lt q hq).1; omega)

set_option maxRecDepth 100000 in
set_option maxHeartbeats 2000000 in
theorem state_any (R : Nat) (bs : Int) (A : Option Addr) (n c : Nat) (nn lim : Int) (hlim : lim ≤ 900000) (hnn : nn ≤ 1000) (w : World) (hR : R < w.heap.size) (hr : Rd w R lim) (hn : n ≤ 12) :
    Calls Tryd.prog 59 #[.pointer (some ⟨R, 0, none⟩), .agg #[.int .i64 bs, .slice A n c], .int .i64 nn] w fun e w' => ∃ v ts, e = .returned v ∧ OwnT w' w.heap.size v ts ∧ ts.length ≤ 13 ∧ Rd w' R (lim + 20) ∧ w.grownBy w' (some R) := by
  obtain ⟨i0, hi, hz0, hz1, hz2⟩ := info_parts boolInfoG
  have HI0 := Lib.hid hi
  clear hi
  go_enter Tryd.func59, Tryd.ntmps59
  go_wp2_with fail
  refine (pick_any R 4 lim (by omega) (by omega) _ ((hr.alloc _).alloc _)).mono ?_
  rintro e w1 ⟨v1, rfl, hv0, hv1, _, hr1, hg1⟩
  have hv2 : v1 < 4 := hv1 (by decide)
  have hown0 := row_far (World.ownsRow_lit (base := w.heap.size + 1) (size := 1) (e := 4) (w.alloc (.cells #[.int .i64 bs, .slice A n c] 25)) #[] 0 (by simp) (by decide) rfl) hg1 (by omega)
  have hgw : w.grownBy w1 (some R) := grown_then (grown_then (grown_alloc _ _ _) (grown_alloc _ _ _)) hg1
  have hbx : IsBlk w1 w.heap.size 25 #[.int .i64 bs, .slice A n c] := (hg1.block _ (by simp; omega) (by simp; omega)).trans ((IsBlk.new w 25 #[.int .i64 bs, .slice A n c]).alloc _)
  have HO := Lib.hid hown0
  have HBX := Lib.hid hbx
  have HR1 := Lib.hid hr1
  have HGW := Lib.hid hgw
  clear hown0 hbx hr1 hgw hg1 hr
  go_wp2_with fail
  go_loopw [7, 9] (fun v i wr => ∃ (k : Nat) (ts : List Bool), k ≤ n ∧ i = .int .i64 k ∧ wr.ownsRow (w.heap.size + 1) 4 1 v k (ts.map Value.bool) ∧ ts.length = k ∧ Rd wr R (lim + 1 + k) ∧ w.grownBy wr (some R) ∧ IsBlk wr w.heap.size 25 #[.int .i64 bs, .slice A n c]) (fun _ i _ => n - (intOf i).toNat)
  case atStart => exact ⟨0, [], by omega, rfl, by simpa using HO.out, rfl, HR1.out.mono (by omega), HGW.out, HBX.out⟩
  case round =>
    obtain ⟨k, ts, hk, rfl, hown, hl, hrd, hgr, hbx⟩ := hrel
    have KO := Lib.hid hown
    have KB := Lib.hid hbx
    have KR := Lib.hid hrd
    have KG := Lib.hid hgr
    have KL := Lib.hid hl
    obtain ⟨p0, p1, p2, p3⟩ := KB.out.two
    clear hown hbx hrd hgr hl
    by_cases hlt : k < n
    · go_wp2_with fail
      refine (pick_any R 4 _ (by omega) (by omega) _ KR.out).mono ?_
      rintro e w2 ⟨v2, rfl, hu0, hu1, _, hr2, hg2⟩
      have KO2 := Lib.hid (row_far KO.out hg2 (by omega))
      have KB2 := Lib.hid (show IsBlk w2 w.heap.size 25 _ from (hg2.block _ KB.out.lt (by simp; omega)).trans KB.out)
      have KR2 := Lib.hid hr2
      have KG2 := Lib.hid (grown_then KG.out hg2)
      have hsz2 : w.heap.size < w2.heap.size := KB2.out.lt
      clear hr2 hg2
      go_wp2_with (
        at_builtin
        refine wpList_append_own _ rfl _ _ _ rfl (w.heap.size + 1) 4 i0 (.bool false) 1 1 Tryd.underlying35 HI0.out hz0 hz1 hz2 rfl (by decide) _ _ _ rfl (World.ownsRow.alloc KO2.out _) ⟨w2.heap.size, 0, none⟩ 1 1 [.bool (decide (v2 < 1 + v1))] rfl rfl ?c1 ?c2 ?c3 ?c4 ?c5 ?_
        case c1 => exact cell_one_new _ _ _
        case c2 => intro u hu; simp at hu; subst hu; rfl
        case c3 => simp only [maxLen]; omega
        case c4 => omega
        case c5 => simp; omega
        intro v' w3 hown' hgrow _
        have KR3 := Lib.hid ((KR2.out.alloc _).grown hgrow (fun q hq => by have := (World.ownsRow.lt KO2.out q hq).1; omega))
        have KB3 := Lib.hid (show IsBlk w3 w.heap.size 25 _ from (hgrow.block _ (by simp; omega) (fun e => by have := (World.ownsRow.lt KO2.out _ e.symm).1; omega)).trans (KB2.out.alloc _))
        have KG3 := Lib.hid (show w.grownBy w3 (some R) from ⟨hgrow.os.trans KG2.out.os, hgrow.tape.trans KG2.out.tape, hgrow.output.trans KG2.out.output, Nat.le_trans KG2.out.size (by have := hgrow.size; simp at this; omega), fun q hq hne => (hgrow.block q (by have := KG2.out.size; simp; omega) (fun e => by have := (World.ownsRow.lt KO2.out q e.symm).1; omega)).trans ((Below.heap_alloc w2 _ q (by have := KG2.out.size; omega)).trans (KG2.out.block q hq hne))⟩))
      go_roundw
      case rel => exact ⟨k + 1, ts ++ [decide (v2 < 1 + v1)], by omega, by go_num, by rw [List.map_append]; exact hown', by rw [List.length_append, KL.out]; rfl, KR3.out.mono (by omega), KG3.out, KB3.out⟩
      case measure => simp [intOf]; omega
    · obtain rfl : k = n := by omega
      go_wp2_with fail
      refine (odd_any R nn _ (by omega) (by omega) _ KR.out).mono ?_
      rintro e w2 ⟨vo, rfl, _, hr2, hg2⟩
      have KO2 := Lib.hid (row_far KO.out hg2 (by omega))
      have KR2 := Lib.hid hr2
      have KG2 := Lib.hid (grown_then KG.out hg2)
      have hsz2 : w.heap.size < w2.heap.size := Nat.lt_of_lt_of_le KB.out.lt hg2.size
      clear hr2 hg2
      cases vo
      · go_wp2
        go_ret
        exact ⟨_, ts, rfl, (OwnT.of_own KO2.out).more (by omega), by rw [KL.out]; omega, KR2.out.mono (by omega), KG2.out⟩
      · go_wp2_with (
          at_builtin
          refine wpList_append_own _ rfl _ _ _ rfl (w.heap.size + 1) 4 i0 (.bool false) 1 1 Tryd.underlying35 HI0.out hz0 hz1 hz2 rfl (by decide) _ _ _ rfl (World.ownsRow.alloc KO2.out _) ⟨w2.heap.size, 0, none⟩ 1 1 [.bool true] rfl rfl ?c1 ?c2 ?c3 ?c4 ?c5 ?_
          case c1 => exact cell_one_new _ _ _
          case c2 => intro u hu; simp at hu; subst hu; rfl
          case c3 => simp only [maxLen]; omega
          case c4 => omega
          case c5 => simp; omega
          intro v' w3 hown' hgrow _
          have KR3 := Lib.hid ((KR2.out.alloc _).grown hgrow (fun q hq => by have := (World.ownsRow.lt KO2.out q hq).1; omega))
          have KG3 := Lib.hid (show w.grownBy w3 (some R) from ⟨hgrow.os.trans KG2.out.os, hgrow.tape.trans KG2.out.tape, hgrow.output.trans KG2.out.output, Nat.le_trans KG2.out.size (by have := hgrow.size; simp at this; omega), fun q hq hne => (hgrow.block q (by have := KG2.out.size; simp; omega) (fun e => by have := (World.ownsRow.lt KO2.out q e.symm).1; omega)).trans ((Below.heap_alloc w2 _ q (by have := KG2.out.size; omega)).trans (KG2.out.block q hq hne))⟩))
        go_ret
        exact ⟨_, ts ++ [true], rfl, (OwnT.of_own (by rw [List.map_append]; exact hown')).more (by omega), by rw [List.length_append, KL.out]; simp; omega, KR3.out.mono (by omega), KG3.out⟩
end Go.Proofs.YtobbmnbkjeoheaaDoor
