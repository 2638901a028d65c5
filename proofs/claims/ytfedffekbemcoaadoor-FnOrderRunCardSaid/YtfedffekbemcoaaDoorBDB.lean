/- Texts joined: The drawings of a network with a line, a bus or two buses; The drawing of states, beside a network; The drawings of states: with a network, two of one network, a number; The laws' comparisons of states and of lists of numbers; The drawing of a network and a state beside a reader; and what draws by it: alone, with a bus, with two buses; What draws a network and a state: alone, with a bus. -/
import Derived.Test.YtfedffekbemcoaaDoorBD1
import Derived.Test.YtfedffekbemcoaaDoorBPA
import Derived.Maps.AppendAt
import Derived.OwnWalk
import Derived.Deep.RegionWith
import Derived.Deep.CutBlock
import Derived.Test.YtfedffekbemcoaaDoorBCA
import Derived.Deep.DeepCutAuto
import Derived.Test.YtfedffekbemcoaaDoorChecked
import Derived.ProofKit
import Derived.Deep.QuietTactic
import Derived.BigQuiet
import Derived.Outline
import Derived.Test.YtfedffekbemcoaaDoorBCC

/- The drawings of a network with a line, a bus or two buses. -/
namespace Go.Proofs.YtfedffekbemcoaaDoor
open Go.ChangeShapes Go.WideShapes Go.ChangeAt Go.RowKit

/-- While something is drawn beside a network: the result's block, the reader at R, the network's block X, its lines. -/
structure DrawSt (w wx : World) (R X : Nat) (lim bs : Int) (v : Value) (ls : List L3) : Prop where
  ret : IsBlk wx w.heap.size 41 #[.int .i64 0, .slice none 0 0]
  hR : w.heap.size < R
  var : IsBlk wx X 41 #[.int .i64 bs, v]
  hX : R < X
  own : OwnL wx (R + 1) v ls
  rd : Rd wx R lim
  bel : Below w.heap.size w wx
section
variable {w wx w' : World} {R X : Nat} {lim lim' bs : Int} {v : Value} {ls : List L3}
theorem DrawSt.pick (h : DrawSt w wx R X lim bs v ls) (hr : Rd w' R lim') (hg : wx.grownBy w' (some R)) : DrawSt w w' R X lim' bs v ls := by
  have h1 := h.hR
  have h2 := h.hX
  exact ⟨(hg.block _ h.ret.lt (by simp; omega)).trans h.ret, h1, (hg.block _ h.var.lt (by simp; omega)).trans h.var, h2,
    h.own.far hg (fun q hq e => by injection e with e; have := (World.ownsRow.lt h.own q hq).1; omega), hr, h.bel.grown hg h.bel.size (fun q hq => by injection hq with hq; omega)⟩
theorem DrawSt.drew (h : DrawSt w wx R X lim bs v ls) : DrawSt w wx.drew R X lim bs v ls := ⟨h.ret, h.hR, h.var, h.hX, h.own, h.rd, h.bel.drew⟩
/-- The result is stored. -/
theorem DrawSt.done {A : Option Addr} {c : Nat} (h : DrawSt w wx R X lim bs (.slice A ls.length c) ls) (u : Value) :
    RowL ((wx.setCell ⟨w.heap.size, 0, none⟩ u).setCell ⟨w.heap.size, 1, none⟩ (.slice A ls.length c)) A ls.length ls ∧ Below w.heap.size w ((wx.setCell ⟨w.heap.size, 0, none⟩ u).setCell ⟨w.heap.size, 1, none⟩ (.slice A ls.length c)) := by
  have h1 := h.hR
  have g2 : wx.grownBy ((wx.setCell ⟨w.heap.size, 0, none⟩ u).setCell ⟨w.heap.size, 1, none⟩ (.slice A ls.length c)) (some w.heap.size) := grown_then (grown_put _ _ _ _) (grown_put _ _ _ _)
  have o2 := h.own.far g2 (fun q hq e => by injection e with e; have := (World.ownsRow.lt h.own q hq).1; omega)
  refine ⟨?_, h.bel.grown g2 h.bel.size (fun q hq => by injection hq with hq; omega)⟩
  obtain ⟨A', c', e, hr⟩ := o2.row
  injection e with e1
  subst e1; exact hr
end

/-- What is behind the reader and the network. -/
theorem draw_start {w w1 w2 : World} {R : Nat} {bs : Int} {v : Value} {ls : List L3} (hb1 : Below (w.heap.size + 1) (w.alloc (.cells #[.int .i64 0, .slice none 0 0] 41)) w1) (hR : R = w.heap.size + 1) (hs : w1.heap.size = w.heap.size + 1 + 1)
    (ho : OwnL w2 (w1.heap.size + 1) v ls) (hr : Rd w2 R 100) (hg : w1.grownBy w2 (some R)) : DrawSt w (w2.alloc (.cells #[.int .i64 bs, v] 41)) R w2.heap.size 100 bs v ls := by
  subst hR
  have h12 := hg.size
  have k1 : IsBlk w1 w.heap.size 41 #[.int .i64 0, .slice none 0 0] := (IsBlk.new w 41 #[.int .i64 0, .slice none 0 0]).below hb1 (by omega)
  have o2 : OwnL w2 (w.heap.size + 1 + 1) v ls := by
    refine ⟨ho.1, ?_⟩
    rcases ho.2 with h | ⟨g, cap, cur, h1, h2, h3⟩
    · exact .inl h
    · exact .inr ⟨g, cap, cur, h1, by omega, h3⟩
  have b1 : Below w.heap.size w w1 := (below_bx w _).trans (hb1.mono (by omega))
  refine ⟨IsBlk.alloc ((hg.block _ k1.lt (by simp)).trans k1) _, by omega, IsBlk.new _ _ _, by omega, o2.keep (below_bx _ _), hr.alloc _, (b1.grown hg (by omega) (fun q hq => by injection hq with hq; omega)).alloc (by omega) _⟩

end Go.Proofs.YtfedffekbemcoaaDoor

/- The drawing of states, beside a network. -/
namespace Go.Proofs.YtfedffekbemcoaaDoor
open Go.ChangeShapes Go.WideShapes Go.ChangeAt Go.RowKit

theorem boolInfoG : (Tryd.prog.info? 4).map (fun i => (i.zero, i.size, i.bytes)) = some (some (.bool false), 1, 1) := by kernel_rfl
theorem row_far {w w' : World} {base e n : Nat} {v : Value} {xs : List Value} {R : Nat} (h : w.ownsRow base e 1 v n xs) (hg : w.grownBy w' (some R)) (hR : R < base) : w'.ownsRow base e 1 v n xs := by
  refine World.ownsRow.kept h hg ?_
  rcases hq : v.ownBlock with _ | q
  · exact .inl rfl
  · exact .inr (fun e => by injection e with e; have := (World.ownsRow.lt h q hq).1; omega)
theorem OwnT.pick {w w' : World} {base : Nat} {v : Value} {ts : List Bool} {R : Nat} (h : OwnT w base v ts) (hg : w.grownBy w' (some R)) (hR : R < base) : OwnT w' base v ts :=
  h.far hg (fun q hq e => by injection e with e; have := (h.lt q hq).1; omega)

set_option maxRecDepth 100000 in
set_option maxHeartbeats 2000000 in
theorem state_any (R : Nat) (bs : Int) (A : Option Addr) (n c : Nat) (nn lim : Int) (hlim : lim ≤ 900000) (hnn : nn ≤ 1000) (w : World) (hR : R < w.heap.size) (hr : Rd w R lim) (hn : n ≤ 12) :
    Calls Tryd.prog 55 #[.pointer (some ⟨R, 0, none⟩), .agg #[.int .i64 bs, .slice A n c], .int .i64 nn] w fun e w' => ∃ v ts, e = .returned v ∧ OwnT w' w.heap.size v ts ∧ ts.length ≤ 13 ∧ Rd w' R (lim + 20) ∧ w.grownBy w' (some R) := by
  obtain ⟨i0, hi, hz0, hz1, hz2⟩ := info_parts boolInfoG
  have HI0 := Lib.hid hi
  clear hi
  go_enter Tryd.func55, Tryd.ntmps55
  go_wp2_with fail
  refine (pick_any R 4 lim (by omega) (by omega) _ ((hr.alloc _).alloc _)).mono ?_
  rintro e w1 ⟨v1, rfl, hv0, hv1, _, hr1, hg1⟩
  have hv2 : v1 < 4 := hv1 (by decide)
  have hown0 := row_far (World.ownsRow_lit (base := w.heap.size + 1) (size := 1) (e := 4) (w.alloc (.cells #[.int .i64 bs, .slice A n c] 41)) #[] 0 (by simp) (by decide) rfl) hg1 (by omega)
  have hgw : w.grownBy w1 (some R) := grown_then (grown_then (grown_alloc _ _ _) (grown_alloc _ _ _)) hg1
  have hbx : IsBlk w1 w.heap.size 41 #[.int .i64 bs, .slice A n c] := (hg1.block _ (by simp; omega) (by simp; omega)).trans ((IsBlk.new w 41 #[.int .i64 bs, .slice A n c]).alloc _)
  have HO := Lib.hid hown0
  have HBX := Lib.hid hbx
  have HR1 := Lib.hid hr1
  have HGW := Lib.hid hgw
  clear hown0 hbx hr1 hgw hg1 hr
  go_wp2_with fail
  go_loopw [7, 9] (fun v i wr => ∃ (k : Nat) (ts : List Bool), k ≤ n ∧ i = .int .i64 k ∧ wr.ownsRow (w.heap.size + 1) 4 1 v k (ts.map Value.bool) ∧ ts.length = k ∧ Rd wr R (lim + 1 + k) ∧ w.grownBy wr (some R) ∧ IsBlk wr w.heap.size 41 #[.int .i64 bs, .slice A n c]) (fun _ i _ => n - (intOf i).toNat)
  case atStart => exact ⟨0, [], by omega, rfl, by simpa using HO.out, rfl, HR1.out.mono (by omega), HGW.out, HBX.out⟩
  case round =>
    obtain ⟨k, ts, hk, rfl, hown, hl, hrd, hgr, hbx⟩ := hrel
    have KO := Lib.hid hown
    have KB := Lib.hid hbx
    have KR := Lib.hid hrd
    have KG := Lib.hid hgr
    have KL := Lib.hid hl
    obtain ⟨p0, p1, p2, p3⟩ := KB.out.two
    clear hown hbx hrd hgr hl
    by_cases hlt : k < n
    · go_wp2_with fail
      refine (pick_any R 4 _ (by omega) (by omega) _ KR.out).mono ?_
      rintro e w2 ⟨v2, rfl, hu0, hu1, _, hr2, hg2⟩
      have KO2 := Lib.hid (row_far KO.out hg2 (by omega))
      have KB2 := Lib.hid (show IsBlk w2 w.heap.size 41 _ from (hg2.block _ KB.out.lt (by simp; omega)).trans KB.out)
      have KR2 := Lib.hid hr2
      have KG2 := Lib.hid (grown_then KG.out hg2)
      have hsz2 : w.heap.size < w2.heap.size := KB2.out.lt
      clear hr2 hg2
      go_wp2_with (
        at_builtin
        refine wpList_append_own _ rfl _ _ _ rfl (w.heap.size + 1) 4 i0 (.bool false) 1 1 Tryd.underlying35 HI0.out hz0 hz1 hz2 rfl (by decide) _ _ _ rfl (World.ownsRow.alloc KO2.out _) ⟨w2.heap.size, 0, none⟩ 1 1 [.bool (decide (v2 < 1 + v1))] rfl rfl ?c1 ?c2 ?c3 ?c4 ?c5 ?_
        case c1 => exact cell_one_new _ _ _
        case c2 => intro u hu; simp at hu; subst hu; rfl
        case c3 => simp only [maxLen]; omega
        case c4 => omega
        case c5 => simp; omega
        intro v' w3 hown' hgrow _
        have KR3 := Lib.hid ((KR2.out.alloc _).grown hgrow (fun q hq => by have := (World.ownsRow.lt KO2.out q hq).1; omega))
        have KB3 := Lib.hid (show IsBlk w3 w.heap.size 41 _ from (hgrow.block _ (by simp; omega) (fun e => by have := (World.ownsRow.lt KO2.out _ e.symm).1; omega)).trans (KB2.out.alloc _))
        have KG3 := Lib.hid (show w.grownBy w3 (some R) from ⟨hgrow.os.trans KG2.out.os, hgrow.tape.trans KG2.out.tape, hgrow.output.trans KG2.out.output, Nat.le_trans KG2.out.size (by have := hgrow.size; simp at this; omega), fun q hq hne => (hgrow.block q (by have := KG2.out.size; simp; omega) (fun e => by have := (World.ownsRow.lt KO2.out q e.symm).1; omega)).trans ((Below.heap_alloc w2 _ q (by have := KG2.out.size; omega)).trans (KG2.out.block q hq hne))⟩))
      go_roundw
      case rel => exact ⟨k + 1, ts ++ [decide (v2 < 1 + v1)], by omega, by go_num, by rw [List.map_append]; exact hown', by rw [List.length_append, KL.out]; rfl, KR3.out.mono (by omega), KG3.out, KB3.out⟩
      case measure => simp [intOf]; omega
    · obtain rfl : k = n := by omega
      go_wp2_with fail
      refine (odd_any R nn _ (by omega) (by omega) _ KR.out).mono ?_
      rintro e w2 ⟨vo, rfl, _, hr2, hg2⟩
      have KO2 := Lib.hid (row_far KO.out hg2 (by omega))
      have KR2 := Lib.hid hr2
      have KG2 := Lib.hid (grown_then KG.out hg2)
      have hsz2 : w.heap.size < w2.heap.size := Nat.lt_of_lt_of_le KB.out.lt hg2.size
      clear hr2 hg2
      cases vo
      · go_wp2
        go_ret
        exact ⟨_, ts, rfl, (OwnT.of_own KO2.out).more (by omega), by rw [KL.out]; omega, KR2.out.mono (by omega), KG2.out⟩
      · go_wp2_with (
          at_builtin
          refine wpList_append_own _ rfl _ _ _ rfl (w.heap.size + 1) 4 i0 (.bool false) 1 1 Tryd.underlying35 HI0.out hz0 hz1 hz2 rfl (by decide) _ _ _ rfl (World.ownsRow.alloc KO2.out _) ⟨w2.heap.size, 0, none⟩ 1 1 [.bool true] rfl rfl ?c1 ?c2 ?c3 ?c4 ?c5 ?_
          case c1 => exact cell_one_new _ _ _
          case c2 => intro u hu; simp at hu; subst hu; rfl
          case c3 => simp only [maxLen]; omega
          case c4 => omega
          case c5 => simp; omega
          intro v' w3 hown' hgrow _
          have KR3 := Lib.hid ((KR2.out.alloc _).grown hgrow (fun q hq => by have := (World.ownsRow.lt KO2.out q hq).1; omega))
          have KG3 := Lib.hid (show w.grownBy w3 (some R) from ⟨hgrow.os.trans KG2.out.os, hgrow.tape.trans KG2.out.tape, hgrow.output.trans KG2.out.output, Nat.le_trans KG2.out.size (by have := hgrow.size; simp at this; omega), fun q hq hne => (hgrow.block q (by have := KG2.out.size; simp; omega) (fun e => by have := (World.ownsRow.lt KO2.out q e.symm).1; omega)).trans ((Below.heap_alloc w2 _ q (by have := KG2.out.size; omega)).trans (KG2.out.block q hq hne))⟩))
        go_ret
        exact ⟨_, ts ++ [true], rfl, (OwnT.of_own (by rw [List.map_append]; exact hown')).more (by omega), by rw [List.length_append, KL.out]; simp; omega, KR3.out.mono (by omega), KG3.out⟩
end Go.Proofs.YtfedffekbemcoaaDoor

/- The drawings of states: with a network, two of one network, a number. -/
namespace Go.Proofs.YtfedffekbemcoaaDoor
open Go.ChangeShapes Go.WideShapes Go.ChangeAt Go.RowKit

theorem RowB.alloc {w : World} {A : Option Addr} {n : Nat} {code : List Int} (hr : RowB w A n code) (o : Obj) : RowB (w.alloc o) A n code := by
  refine ⟨hr.1, fun hp => ?_, hr.2.2⟩
  obtain ⟨b, off, e, hlt, hcl⟩ := hr.2.1 hp
  exact ⟨b, off, e, by simp; omega, fun k x hk => by rw [World.cell?_alloc_lt _ _ _ hlt]; exact hcl k x hk⟩

theorem make11b (w : World) : (Instr.makeSlice 35 (.int .i64 11) (.int .i64 11)).run Tryd.prog w = .ok (.slice (some ⟨w.heap.size, 0, none⟩) 11 11) (w.alloc (.cells (madeCells (Value.bool false).cells 11) 4)) := by
  obtain ⟨i0, hi, hz0, hz1, hz2⟩ := info_parts boolInfoG
  have := run_make (P := Tryd.prog) w 35 4 i0 _ Tryd.underlying35 hi hz0 .i64 .i64 11 11 (by omega) (by omega) (by rw [hz2]; omega) (by omega)
  rw [this]
  show Result.ok _ (w.alloc (.cells (madeCells (Value.bool false).cells (11 * i0.size)) _)) = _
  rw [hz1]
  rfl
theorem made11b : (madeCells (Value.bool false).cells 11).toList.take 11 = (List.replicate 11 false).map Value.bool := by
  have h := madeCells_row (f := fun t : Bool => [Value.bool t]) (m := 1) (fun _ => rfl) (Value.bool false).cells false rfl (by decide) 11
  rw [Nat.mul_one] at h
  rw [h]; rfl

/-- What is behind the reader and the network, where no result lies in memory. -/
structure DrawS2 (w wx : World) (R X : Nat) (lim bs : Int) (v : Value) (ls : List L3) : Prop where
  hR : w.heap.size ≤ R
  var : IsBlk wx X 41 #[.int .i64 bs, v]
  hX : R < X
  own : OwnL wx (R + 1) v ls
  rd : Rd wx R lim
  bel : Below w.heap.size w wx
section
variable {w wx w' : World} {R X : Nat} {lim lim' bs : Int} {v : Value} {ls : List L3}
theorem DrawS2.pick (h : DrawS2 w wx R X lim bs v ls) (hr : Rd w' R lim') (hg : wx.grownBy w' (some R)) : DrawS2 w w' R X lim' bs v ls := by
  have h2 := h.hX
  have h1 := h.hR
  exact ⟨h.hR, (hg.block _ h.var.lt (by simp; omega)).trans h.var, h2,
    h.own.far hg (fun q hq e => by injection e with e; have := (World.ownsRow.lt h.own q hq).1; omega), hr, h.bel.grown hg h.bel.size (fun q hq => by injection hq with hq; omega)⟩
theorem DrawS2.drew (h : DrawS2 w wx R X lim bs v ls) : DrawS2 w wx.drew R X lim bs v ls := ⟨h.hR, h.var, h.hX, h.own, h.rd, h.bel.drew⟩
end
end Go.Proofs.YtfedffekbemcoaaDoor

/- The laws' comparisons of states and of lists of numbers. -/
namespace Go.Proofs.YtfedffekbemcoaaDoor
open Go.ChangeShapes Go.WideShapes Go.ChangeAt Go.RowKit

theorem OwnI.form {e : TypeId} {w : World} {base : Nat} {v : Value} {zs : List Int} (h : OwnI e w base v zs) : ∃ A c, v = .slice A zs.length c ∧ RowZ w A zs.length zs := by
  rcases h.2 with ⟨h1, h0⟩ | ⟨g, cap, cur, h1, hb, hg, hn, hc, hsz, ht⟩
  · have : zs = [] := List.eq_nil_of_length_eq_zero h0
    subst this
    exact ⟨none, 0, h1, RowZ.none_⟩
  · exact ⟨_, cap, h1, (h1 ▸ h : OwnI e w base (.slice (some ⟨g, 0, none⟩) zs.length cap) zs).rowZ⟩

theorem sameBools_same (A A' : Option Addr) (n c c' : Nat) (ts : List Bool) (w : World) (hn : n ≤ 1048576) (hr : RowT w A n ts) (hr' : RowT w A' n ts) :
    Calls Tryd.prog 26 #[.slice A n c, .slice A' n c'] w fun e w' => e = .returned (.bool true) ∧ Below w.heap.size w w' := by
  have HR := Lib.hid hr
  have HR' := Lib.hid hr'
  clear hr hr'
  go_enter Tryd.func26, Tryd.ntmps26
  go_wp2
  go_loopw [5] (fun i wr => ∃ k : Nat, k ≤ n ∧ i = .int .i64 k ∧ Below w.heap.size w wr) (fun i _ => n - (intOf i).toNat)
  case atStart => exact ⟨0, by omega, rfl, Below.refl _ _⟩
  case round =>
    obtain ⟨k, hk, rfl, hbel⟩ := hrel
    by_cases hlt : k < n
    · obtain ⟨b, off, t, rfl, hb, hkt, g0⟩ := HR.out.at_ hlt
      obtain ⟨b', off', t', rfl, hb', hkt', g0'⟩ := HR'.out.at_ hlt
      rw [← hbel.cell (p := ⟨b, off + k, none⟩) hb] at g0
      rw [← hbel.cell (p := ⟨b', off' + k, none⟩) hb'] at g0'
      obtain rfl : t' = t := by rw [hkt] at hkt'; injection hkt' with h; exact h.symm
      clear hkt hkt'
      have i0 : (0 : Int) ≤ (k : Int) := by omega
      have i1 : (k : Int) < (n : Int) := by omega
      go_wp2
      go_quiet (fail)
      go_wp2
      go_roundw
      case rel => exact ⟨k + 1, by omega, by go_num, ⟨hbel.os, hbel.tape, hbel.output, hbel.size, hbel.block⟩⟩
      case measure => simp [intOf]; omega
    · go_wp2
      go_ret
      exact ⟨rfl, hbel⟩
theorem sameBools_own {v v' : Value} {ts : List Bool} {w : World} {b b' : Nat} (hn : ts.length ≤ 1048576) (h : OwnT w b v ts) (h' : OwnT w b' v' ts) :
    Calls Tryd.prog 26 #[v, v'] w fun e w' => e = .returned (.bool true) ∧ Below w.heap.size w w' := by
  obtain ⟨A, c, rfl, _, h1⟩ := h.row
  obtain ⟨A', c', rfl, _, h2⟩ := h'.row
  exact sameBools_same A A' _ c c' ts w hn h1 h2


end Go.Proofs.YtfedffekbemcoaaDoor

/- The drawing of a network and a state beside a reader; and what draws by it: alone, with a bus, with two buses. -/
namespace Go.Proofs.YtfedffekbemcoaaDoor
open Go.ChangeShapes Go.WideShapes Go.ChangeAt Go.RowKit

theorem grown_new {w0 w w' : World} {R q : Nat} (h : w0.grownBy w (some R)) (g : w.grownBy w' (some q)) (hq : w0.heap.size ≤ q) : w0.grownBy w' (some R) :=
  ⟨g.os.trans h.os, g.tape.trans h.tape, g.output.trans h.output, Nat.le_trans h.size g.size, fun p hp hne => (g.block p (Nat.lt_of_lt_of_le hp h.size) (fun e => by injection e with e; omega)).trans (h.block p hp hne)⟩

/-- While a state is drawn beside a network, by a reader that was there before. -/
structure SwSt (w wx : World) (R X : Nat) (lim bs : Int) (v : Value) (ls : List L3) : Prop where
  hR : R < w.heap.size
  ret : IsBlk wx w.heap.size 41 #[.int .i64 0, .slice none 0 0]
  hX : w.heap.size < X
  var : IsBlk wx X 41 #[.int .i64 bs, v]
  own : OwnL wx (w.heap.size + 1) v ls
  rd : Rd wx R lim
  gr : w.grownBy wx (some R)
section
variable {w wx w' : World} {R X : Nat} {lim lim' bs : Int} {v : Value} {ls : List L3}
theorem SwSt.pick (h : SwSt w wx R X lim bs v ls) (hr : Rd w' R lim') (hg : wx.grownBy w' (some R)) : SwSt w w' R X lim' bs v ls := by
  have h1 := h.hR
  have h2 := h.hX
  exact ⟨h.hR, (hg.block _ h.ret.lt (by simp; omega)).trans h.ret, h.hX, (hg.block _ h.var.lt (by simp; omega)).trans h.var,
    h.own.far hg (fun q hq e => by injection e with e; have := (World.ownsRow.lt h.own q hq).1; omega), hr, grown_then h.gr hg⟩
theorem SwSt.drew (h : SwSt w wx R X lim bs v ls) : SwSt w wx.drew R X lim bs v ls := ⟨h.hR, h.ret, h.hX, h.var, h.own, h.rd, h.gr.os, h.gr.tape, h.gr.output, h.gr.size, h.gr.block⟩
theorem SwSt.done (h : SwSt w wx R X lim bs v ls) (u u' : Value) :
    OwnL ((wx.setCell ⟨w.heap.size, 0, none⟩ u).setCell ⟨w.heap.size, 1, none⟩ u') (w.heap.size + 1) v ls ∧ Rd ((wx.setCell ⟨w.heap.size, 0, none⟩ u).setCell ⟨w.heap.size, 1, none⟩ u') R lim ∧ w.grownBy ((wx.setCell ⟨w.heap.size, 0, none⟩ u).setCell ⟨w.heap.size, 1, none⟩ u') (some R) := by
  have h1 := h.hR
  have g2 : wx.grownBy ((wx.setCell ⟨w.heap.size, 0, none⟩ u).setCell ⟨w.heap.size, 1, none⟩ u') (some w.heap.size) := grown_then (grown_put _ _ _ _) (grown_put _ _ _ _)
  exact ⟨h.own.far g2 (fun q hq e => by injection e with e; have := (World.ownsRow.lt h.own q hq).1; omega), h.rd.far (by omega) g2, grown_new h.gr g2 (Nat.le_refl _)⟩
end
theorem sw_start {w w2 : World} {R : Nat} {lim bs : Int} {v : Value} {ls : List L3} (hR : R < w.heap.size) (ho : OwnL w2 ((w.alloc (.cells #[.int .i64 0, .slice none 0 0] 41)).heap.size + 1) v ls) (hr : Rd w2 R lim)
    (hg : (w.alloc (.cells #[.int .i64 0, .slice none 0 0] 41)).grownBy w2 (some R)) : SwSt w (w2.alloc (.cells #[.int .i64 bs, v] 41)) R w2.heap.size lim bs v ls := by
  have h12 := hg.size
  rw [World.size_alloc] at h12 ho
  have k1 : IsBlk (w.alloc (.cells #[.int .i64 0, .slice none 0 0] 41)) w.heap.size 41 #[.int .i64 0, .slice none 0 0] := IsBlk.new w _ _
  have o2 : OwnL w2 (w.heap.size + 1) v ls := by
    refine ⟨ho.1, ?_⟩
    rcases ho.2 with h | ⟨g, cap, cur, h1, h2, h3⟩
    · exact .inl h
    · exact .inr ⟨g, cap, cur, h1, by omega, h3⟩
  exact ⟨hR, IsBlk.alloc ((hg.block _ k1.lt (by simp; omega)).trans k1) _, by omega, IsBlk.new _ _ _, o2.keep (below_bx _ _), hr.alloc _, grown_then (grown_then (grown_alloc _ _ _) hg) (grown_alloc _ _ _)⟩

theorem OwnL.more {w : World} {base base' : Nat} {v : Value} {ls : List L3} (h : OwnL w base v ls) (hb : base' ≤ base) : OwnL w base' v ls := by
  refine ⟨h.1, ?_⟩
  rcases h.2 with h | ⟨g, cap, cur, h1, h2, h3⟩
  · exact .inl h
  · exact .inr ⟨g, cap, cur, h1, by omega, h3⟩
theorem OwnT.far1 {wx : World} {base q : Nat} {v : Value} {ts : List Bool} (h : OwnT wx base v ts) (hq : q < base) (u u' : Value) : OwnT ((wx.setCell ⟨q, 0, none⟩ u).setCell ⟨q, 1, none⟩ u') base v ts :=
  h.far (grown_then (grown_put _ _ _ _) (grown_put _ _ _ _)) (fun p hp e => by injection e with e; have := (h.lt p hp).1; omega)

set_option maxRecDepth 100000 in
set_option maxHeartbeats 1000000 in
theorem switched_any (R : Nat) (n lim : Int) (hlim : lim ≤ 800000) (hn0 : 0 ≤ n) (hn : n ≤ 400) (w : World) (hR : R < w.heap.size) (hr : Rd w R lim) :
    Calls Tryd.prog 59 #[.pointer (some ⟨R, 0, none⟩), .int .i64 n] w fun e w' => ∃ bs A c ls v ts, e = .returned (.tuple #[.agg #[.int .i64 bs, .slice A ls.length c], v]) ∧ OwnL w' (w.heap.size + 1) (.slice A ls.length c) ls ∧ ls.length ≤ 12 ∧ -1 ≤ bs ∧ bs ≤ 9 ∧ OwnT w' (w.heap.size + 1) v ts ∧ ts.length ≤ 13 ∧ Rd w' R (lim + 200) ∧ w.grownBy w' (some R) := by
  have hw : IntKind.i64.wrap (2 * n) = 2 * n := IntWalk.i64_in _ (by omega)
  go_enter Tryd.func59, Tryd.ntmps59
  go_wp2_with fail
  refine (net_any R (2 * n) lim (by omega) (by omega) _ (by simp; omega) (hr.alloc _)).mono ?_
  rintro e w2 ⟨bs, v, ls, rfl, ho, hl, hb0, hb9, hr2, hg2⟩
  obtain ⟨A', c', rfl, _⟩ := ho.row
  have S1 := Lib.hid (sw_start (bs := bs) hR ho hr2 hg2)
  clear hr2 hg2 ho hr
  go_upto_region 2 with fail
  obtain ⟨p0, p1, p2, p3⟩ := S1.out.var.two
  obtain ⟨q0, q1, q2, q3⟩ := S1.out.ret.two
  have hX1 : ¬ w.heap.size = w2.heap.size := by have := S1.out.hX; omega
  generalize w2.heap.size = X at *
  have D1 := Lib.hid S1.out.drew
  have HLm := Lib.hid hl
  have hlt : R < (w2.alloc (.cells #[.int .i64 bs, .slice A' ls.length c'] 41)).drew.heap.size := D1.out.rd.lt
  have hn1 : 2 * n ≤ 1000 := by omega
  have hl1 : lim + 100 ≤ 900000 := by omega
  have HN1 := Lib.hid hn1
  have HL1 := Lib.hid hl1
  clear hlt hn1 hl1
  go_region_with (first
    | (go_at_call 55; refine (state_any R bs A' ls.length c' (2 * n) _ HL1.out HN1.out _ D1.out.rd.lt D1.out.rd HLm.out).mono ?_; rintro e w3 ⟨vs, ts, rfl, hO, hts, hr3, hg3⟩; have T1 := Lib.hid (D1.out.pick hr3 hg3); have TO := Lib.hid hO; clear hO; obtain ⟨p0, p1, p2, p3⟩ := T1.out.var.two; obtain ⟨q0, q1, q2, q3⟩ := T1.out.ret.two))
  all_goals go_wp2_with fail
  all_goals
    obtain ⟨o4, r4, g4⟩ := T1.out.done (.int .i64 bs) (.slice A' ls.length c')
    obtain ⟨As, cs, rfl, _, _⟩ := TO.out.row
    refine bodyPost_ret (v := .tuple #[.agg #[.int .i64 bs, .slice A' ls.length c'], .slice As ts.length cs]) (by simp [results, Tryd.results59, go_sem, q0, q1]) rfl ⟨bs, A', c', ls, _, ts, rfl, o4, hl, hb0, hb9, (TO.out.far1 (by have := D1.out.hX; have := D1.out.var.lt; omega) _ _).more (by have := D1.out.hX; have := D1.out.var.lt; omega), hts, r4.mono (by omega), g4⟩
end Go.Proofs.YtfedffekbemcoaaDoor

/- What draws a network and a state: alone, with a bus. -/
namespace Go.Proofs.YtfedffekbemcoaaDoor
open Go.ChangeShapes Go.WideShapes Go.ChangeAt Go.RowKit

theorem draw_startS {w w1 w2 : World} {R : Nat} {lim bs : Int} {v : Value} {ls : List L3} (hb1 : Below (w.heap.size + 1) (w.alloc (.cells #[.int .i64 0, .slice none 0 0] 41)) w1) (hR : R = w.heap.size + 1) (hs : w1.heap.size = w.heap.size + 1 + 1)
    (ho : OwnL w2 (w1.heap.size + 1) v ls) (hr : Rd w2 R lim) (hg : w1.grownBy w2 (some R)) : DrawSt w (w2.alloc (.cells #[.int .i64 bs, v] 41)) R w2.heap.size lim bs v ls := by
  subst hR
  have h12 := hg.size
  have k1 : IsBlk w1 w.heap.size 41 #[.int .i64 0, .slice none 0 0] := (IsBlk.new w 41 #[.int .i64 0, .slice none 0 0]).below hb1 (by omega)
  have b1 : Below w.heap.size w w1 := (below_bx w _).trans (hb1.mono (by omega))
  exact ⟨IsBlk.alloc ((hg.block _ k1.lt (by simp)).trans k1) _, by omega, IsBlk.new _ _ _, by omega, (ho.more (by omega)).keep (below_bx _ _), hr.alloc _, (b1.grown hg (by omega) (fun q hq => by injection hq with hq; omega)).alloc (by omega) _⟩

/-- The answer of such a drawing without a bus. -/
def NetAndState (w : World) (e : Ending) (w' : World) : Prop := ∃ bs A c ls v ts, e = .returned (.tuple #[.agg #[.int .i64 bs, .slice A ls.length c], v]) ∧ RowL w' A ls.length ls ∧ ls.length ≤ 12 ∧ -1 ≤ bs ∧ bs ≤ 9 ∧ OwnT w' w.heap.size v ts ∧ ts.length ≤ 13 ∧ Below w.heap.size w w'

/-- The network is stored into the result. -/
theorem stored {w w1 w2 : World} {R : Nat} {A A' : Option Addr} {c c' : Nat} {ls : List L3} {bs : Int} {ts : List Bool} (hb1 : Below (w.heap.size + 1) (w.alloc (.cells #[.int .i64 0, .slice none 0 0] 41)) w1) (hR : R = w.heap.size + 1) (hs : w1.heap.size = w.heap.size + 1 + 1)
    (ho : OwnL w2 (w1.heap.size + 1) (.slice A ls.length c) ls) (hO : OwnT w2 (w1.heap.size + 1) (.slice A' ts.length c') ts) (hg : w1.grownBy w2 (some R)) :
    RowL ((w2.setCell ⟨w.heap.size, 0, none⟩ (.int .i64 bs)).setCell ⟨w.heap.size, 1, none⟩ (.slice A ls.length c)) A ls.length ls ∧ OwnT ((w2.setCell ⟨w.heap.size, 0, none⟩ (.int .i64 bs)).setCell ⟨w.heap.size, 1, none⟩ (.slice A ls.length c)) w.heap.size (.slice A' ts.length c') ts ∧ Below w.heap.size w ((w2.setCell ⟨w.heap.size, 0, none⟩ (.int .i64 bs)).setCell ⟨w.heap.size, 1, none⟩ (.slice A ls.length c)) := by
  subst hR
  have h12 := hg.size
  have b1 : Below w.heap.size w w1 := (below_bx w _).trans (hb1.mono (by omega))
  have b2 := b1.grown hg (by omega) (fun q hq => by injection hq with hq; omega)
  have g2 : w2.grownBy ((w2.setCell ⟨w.heap.size, 0, none⟩ (.int .i64 bs)).setCell ⟨w.heap.size, 1, none⟩ (.slice A ls.length c)) (some w.heap.size) := grown_then (grown_put _ _ _ _) (grown_put _ _ _ _)
  have o2 := ho.far g2 (fun q hq e => by injection e with e; have := (World.ownsRow.lt ho q hq).1; omega)
  refine ⟨?_, (hO.far1 (by omega) _ _).more (by omega), b2.grown g2 b2.size (fun q hq => by injection hq with hq; omega)⟩
  obtain ⟨A2, c2, e, hr⟩ := o2.row
  injection e with e1
  subst e1; exact hr




end Go.Proofs.YtfedffekbemcoaaDoor
